/-
  CANONICAL FORMS, the document's: the form of a request for a list.
-/
import Derived.Test.YtinnliapfdpfpaaGreatDoorFForm0
import Derived.Deep.RegionHeld3
import Derived.BigRegion
namespace Go.Proofs.YtinnliapfdpfpaaGreatDoor.R
open Go.RowKit
open Go.Proofs.YtinnliapfdpfpaaGreatDoor.C (ret_bool ret_int enc enc_len)

theorem str_form (m e q t l h : Bs) : ((⟨m.toArray⟩ : ByteArray) ++ ⟨#[10]⟩ ++ ⟨e.toArray⟩ ++ ⟨#[10]⟩ ++ ⟨q.toArray⟩ ++ ⟨#[10]⟩ ++ ⟨t.toArray⟩ ++ ⟨#[10]⟩ ++ ⟨l.toArray⟩ ++ ⟨#[10]⟩ ++ ⟨h.toArray⟩) = ⟨(m ++ [10] ++ e ++ [10] ++ q ++ [10] ++ t ++ [10] ++ l ++ [10] ++ h).toArray⟩ := by
  apply ByteArray.ext
  apply Array.ext'
  simp
set_option maxRecDepth 20000 in
set_option maxHeartbeats 8000000 in
theorem rform_any (m p : Bs) (q hs : Ps) (qv hv : Value) (y list : Bs) (w : World) (hq : phold w w.heap.size qv q) (hh : phold w w.heap.size hv hs) (hne : ∀ n v, findP hs n = some v → n ≠ [])
    (b1 : m.length ≤ 1000000) (b2 : p.length ≤ 1000000) (b3 : q.length ≤ 1000000) (b4 : ∀ p ∈ q, p.1.length ≤ 1000000 ∧ p.2.length ≤ 1000000) (b5 : hs.length ≤ 1000000) (b6 : y.length ≤ 1000000) (b7 : list.length ≤ 2000000) (b8 : ∀ p ∈ hs, p.1.length ≤ 1000000 ∧ p.2.length ≤ 1000000) :
    Calls Tryz.prog 39 #[.agg #[str m, str p, qv, hv, str y], str list] w fun e w' => e = fEnd (canonOf m p q hs y list) ∧ Below w.heap.size w w' := by
  have hW : Below w.heap.size w (w.alloc (.cells #[str m, str p, qv, hv, str y] 80)) := (Below.refl _ _).alloc (Nat.le_refl _) _
  have S0 : FSt w (w.alloc (.cells #[str m, str p, qv, hv, str y] 80)).heap.size w.heap.size m p y qv q hv hs (.slice none 0 0) [] (w.alloc (.cells #[str m, str p, qv, hv, str y] 80)) :=
    ⟨by simp [go_sem], by simp [go_sem], by simp [go_sem], by simp [go_sem], by simp [go_sem], by simp, Nat.le_refl _, hq.call hW, hh.call hW, shold_nil _ _, hW⟩
  obtain ⟨ha, hc, rfl⟩ := hh.len
  obtain ⟨qa, qc, rfl⟩ := hq.len
  clear hq hh
  have HNE : Hid (∀ n v, findP hs n = some v → n ≠ []) := hne
  clear hne
  have hNL := names_len list
  have CO1 : Hid (pickRef hs none (namesOf list) = none → canonOf m p q hs y list = none) := fun h => co_none (by rw [← pick_none hs HNE.out]; exact h)
  have CO2 : Hid (∀ s, pickRef hs none (namesOf list) = some s → pickFrom hs [] (namesOf list) = some s) := fun s h => by rw [← pick_none hs HNE.out]; exact h
  have CO3 : Hid (∀ s, pickFrom hs [] (namesOf list) = some s → misses hs s = true → canonOf m p q hs y list = none) := fun s h k => co_miss h k
  have CO4 : Hid (∀ s, pickFrom hs [] (namesOf list) = some s → misses hs s = false → canonOf m p q hs y list = some (canonText m p (canonQ q) s list (hashT y))) := fun s h k => co_some h k
  have HQM : Hid (∀ x ∈ sorted (qs q), x.length ≤ 100000000) := sorted_mem (qs_mem b4)
  have hql : (sorted (qs q)).length ≤ 1000000 := by rw [List.length_mergeSort]; exact Nat.le_trans (qs_len q) b3
  have hqn := canonQ_len b3 b4
  have HCQ : Hid (canonQ q = Lib.join (sorted (qs q)) [38]) := rfl
  by_cases hl0 : list = []
  · have hN : namesOf list = [] := by simp [namesOf, hl0]
    have hl0' : (list == []) = true := by simpa using hl0
    rw [hN] at hNL CO1 CO2 CO3 CO4
    go_enter Tryz.func39, Tryz.ntmps39
    go_wp2_with fail
    generalize (w.alloc (.cells #[str m, str p, .slice qa q.length qc, .slice ha hs.length hc, str y] 80)) = W0 at *
    have S1 := S0
    clear S0 hl0 CO1 CO2 hN hW
    generalize W0.heap.size = B at *
    generalize hbe : w.heap.size = b at *
    have HF : Hid (∀ W, Below b w W → Below w.heap.size w W) := fun W k => by rw [hbe]; exact k
    clear hbe
    obtain ⟨ts, hts⟩ : ∃ ts : Bs, ts = [] := ⟨_, rfl⟩
    obtain ⟨s, hs0⟩ : ∃ s : Ps, s = [] := ⟨_, rfl⟩
    have HTS : Hid (told s = ts) := by show _ = _; rw [hs0, hts]; rfl
    have HPS : Hid (pickFrom hs [] [] = some s) := by show _ = _; rw [hs0]; rfl
    have hmem : ∀ x ∈ s, x ∈ hs := by rw [hs0]; simp
    have HTE : Hid (ts = []) := hts
    clear hts hs0
    go_wp2
    go_loopw [7, 8] (fun t i wr => t = str ts ∧ i = .int .i64 0 ∧ FSt w B b m p y (.slice qa q.length qc) q (.slice ha hs.length hc) hs (.slice none 0 0) [] wr) (fun _ _ _ => 0)
    case atStart => exact ⟨by rw [HTE.out], rfl, S1⟩
    case round =>
      clear S1
      obtain ⟨rfl, rfl, S2⟩ := hrel
      have hsl : s.length ≤ 3000000 := by
        have := congrArg List.length (pick_names hs _ _ _ HPS.out)
        rw [List.length_map] at this
        rw [this]; simp
      have HNS : Hid (∀ n, (findP s n).isNone = !hasN [] n) := by
        intro n
        rw [findP_names, pick_names hs _ _ _ HPS.out]; rfl
      have htl : ts.length ≤ s.length * 2000002 := by rw [← HTS.out]; exact told_len (fun x hx => b8 x (hmem x hx))
      go_wp2
      go_loopw [11] (fun i wr => ∃ k : Nat, k ≤ hs.length ∧ i = .int .i64 k ∧ misses (hs.take k) s = false ∧ FSt w B b m p y (.slice qa q.length qc) q (.slice ha hs.length hc) hs (.slice none 0 0) [] wr) (fun i _ => hs.length - (intOf i).toNat)
      case atStart => exact ⟨0, Nat.zero_le _, rfl, by simp [misses], S2⟩
      case round =>
        clear S2
        obtain ⟨k, hk, rfl, hno, S3⟩ := hrel
        have HN : Hid (misses (hs.take k) s = false) := hno
        clear hno
        have c3 := S3.d3
        by_cases hlt : k < hs.length
        · obtain ⟨g, e1, hg, c1, c2⟩ := S3.hh.at hlt
          cases e1
          have HS : Hid (misses (hs.take (k + 1)) s = (must hs[k].1 && (findP s hs[k].1).isNone)) := misses_take hlt HN.out
          have HH : Hid ((must hs[k].1 && (findP s hs[k].1).isNone) = true → misses hs s = true) := misses_hit hlt
          have HI : Hid ((findP s hs[k].1).isNone = !hasN [] hs[k].1) := HNS.out _
          have HMU : Hid (must hs[k].1 = (hs[k].1 == [104, 111, 115, 116] || hs[k].1 == [108, 101, 110, 103, 116, 104] || ([120, 45] : Bs).isPrefixOf hs[k].1)) := rfl
          obtain ⟨l1, l2⟩ := b8 hs[k] (List.getElem_mem hlt)
          rw [HI.out] at HS HH
          clear HI HNS
          generalize hs[k] = x at *
          obtain ⟨xn, xv⟩ := x
          simp only at c1 c2 HS HH HMU l1 l2
          have BG : Hid (_) := rbegins_r xn [120, 45]
          have NM : Hid (_) := rnamed_r (.slice none 0 0) [] xn
          have HX0 : Hid (misses hs s = true → canonOf m p q hs y list = none) := CO3.out s HPS.out
          rw [HMU.out] at HS HH
          cases hpb : ([120, 45] : Bs).isPrefixOf xn <;> cases he1 : (xn == [104, 111, 115, 116]) <;> cases he2 : (xn == [108, 101, 110, 103, 116, 104]) <;> cases hth : hasN [] xn
          all_goals
            rw [hpb, he1, he2, hth] at HS HH
            rw [hpb] at BG
            rw [hth] at NM
            go_wp2_with (first
              | (go_at_call 68; refine (BG.out _ (by omega) (by simp)).mono ?_; rintro e w6 ⟨rfl, rfl⟩)
              | (go_at_call 69; refine (NM.out _ _ S3.hn (by omega)).mono ?_; rintro e w7 ⟨rfl, rfl⟩))
            first
              | (go_ret2
                 exact ⟨fEnd_no (HX0.out (HH.out rfl)), HF.out _ S3.hw⟩)
              | (go_roundw
                 case rel => exact ⟨k + 1, by omega, by go_num, by rw [HS.out]; rfl, S3⟩
                 case measure => simp [intOf]; omega)
        · have HT : Hid (misses hs s = false) := by have := HN.out; rwa [List.take_of_length_le (by omega)] at this
          have HX : Hid (canonOf m p q hs y list = some (canonText m p (canonQ q) s list (hashT y))) := CO4.out s HPS.out HT.out
          clear HN HT HNS CO3 CO4
          go_wp2
          clear hlt hk
          go_loopw [15, 16] (fun v i wr => ∃ k : Nat, k ≤ q.length ∧ i = .int .i64 k ∧ srow wr B v (qs (q.take k)) ∧ FSt w B b m p y (.slice qa q.length qc) q (.slice ha hs.length hc) hs (.slice none 0 0) [] wr) (fun _ i _ => q.length - (intOf i).toNat)
          case atStart => exact ⟨0, Nat.zero_le _, rfl, srow_nil _ _, S3⟩
          case round =>
            clear S3
            obtain ⟨k, hk, rfl, hrow, S4⟩ := hrel
            have cq := S4.d2
            have hB4 := S4.hB
            by_cases hlt : k < q.length
            · obtain ⟨g, e1, hg, c1, c2⟩ := S4.hq.at hlt
              cases e1
              have HS : Hid (qs (q.take (k + 1)) = if q[k].1 = [120, 45, 115, 105, 103] then qs (q.take k) else qs (q.take k) ++ [pairText q[k]]) := qs_take hlt
              obtain ⟨l1, l2⟩ := b4 q[k] (List.getElem_mem hlt)
              have hql : (qs (q.take k)).length ≤ 1000000 := Nat.le_trans (qs_len _) (by rw [List.length_take]; omega)
              have BB : ∀ W, FSt w B b m p y (.slice (some ⟨g, 0, none⟩) q.length qc) q (.slice ha hs.length hc) hs (.slice none 0 0) [] W → W.cell? ⟨b, 2, none⟩ = some (.slice (some ⟨g, 0, none⟩) q.length qc) ∧ W.cell? ⟨g, k * 2, none⟩ = some (str q[k].1) ∧ W.cell? ⟨g, k * 2 + 1, none⟩ = some (str q[k].2) := fun W h => ⟨h.d2, by obtain ⟨g', e, _, c, c'⟩ := h.hq.at hlt; cases e; exact ⟨c, c'⟩⟩
              generalize q[k] = x at *
              obtain ⟨pn, pv⟩ := x
              simp only [pairText] at c1 c2 HS l1 l2 BB
              have e1 := (enc_len false pn).2
              have e2 := (enc_len false pv).2
              generalize qs (q.take k) = o at *
              by_cases hx : pn = [120, 45, 115, 105, 103]
              · have hx' : (pn == [120, 45, 115, 105, 103]) = true := by simpa using hx
                have HS2 : Hid (qs (q.take (k + 1)) = o) := by show _ = _; rw [HS.out, if_pos hx]
                clear hx
                go_wp2
                go_roundw
                case rel => exact ⟨k + 1, by omega, by go_num, by rw [HS2.out]; exact hrow, S4⟩
                case measure => simp [intOf]; omega
              · have hx' : (pn == [120, 45, 115, 105, 103]) = false := by simpa using hx
                have HS2 : Hid (qs (q.take (k + 1)) = o ++ [enc false pn ++ [61] ++ enc false pv]) := by show _ = _; rw [HS.out, if_neg hx]
                clear hx HS
                have f1 : ¬ 9223372036854775807 < (enc false pn).length + 1 := by omega
                have f2 : ¬ 9223372036854775807 < (enc false pn).length + 1 + (enc false pv).length := by omega
                have HC2 : Hid (#[Value.string ((⟨(enc false pn).toArray⟩ : ByteArray) ++ ⟨#[61]⟩ ++ ⟨(enc false pv).toArray⟩)] = #[str (enc false pn ++ [61] ++ enc false pv)]) := by
                  show _ = _
                  have e3 : ((⟨(enc false pn).toArray⟩ : ByteArray) ++ ⟨#[61]⟩) = ⟨(enc false pn ++ [61]).toArray⟩ := str_app _ [61]
                  rw [e3, str_app]
                go_wp2_with fail
                go_region_held3 (fun w' => w'.cell? ⟨b, 2, none⟩ = some (.slice (some ⟨g, 0, none⟩) q.length qc) ∧ w'.cell? ⟨g, k * 2, none⟩ = some (str pn) ∧ w'.cell? ⟨g, k * 2 + 1, none⟩ = some (str pv)) (first | exact BB _ S4 | exact BB _ S4.drew | exact BB _ (S4.alloc _) | exact BB _ ((S4.alloc _).step hb8))
                  (first
                    | (go_at_call 70; refine (rencode_r _ false _ (by omega)).mono ?_; rintro e w6 ⟨rfl, hb6⟩; replace S4 : FSt w B b m p y (.slice (some ⟨g, 0, none⟩) q.length qc) q (.slice ha hs.length hc) hs (.slice none 0 0) [] w6 := (by first | exact S4.call hb6 | exact S4.drew.call hb6); have hsz := S4.hB; replace hrow : srow w6 B u15 o := (by first | exact hrow.below hb6 | exact srow.below (w := wr.drew) hrow hb6))
                    | (refine sapp_step rfl _ _ rfl B o (enc false pn ++ [61] ++ enc false pv) _ rfl (hrow.alloc _) _ rfl _ (heap_new_eq HC2.out) (by omega) (by simp; omega) ?_; intro v' w8 row8 hg8 hb8))
                rename_i hHeld
                clear hHeld
                go_wp2
                go_roundw
                case rel => exact ⟨k + 1, by omega, by go_num, by rw [HS2.out]; exact row8, (S4.alloc _).step hb8⟩
                case measure => simp [intOf]; omega
            · have HT : Hid (q.take k = q) := List.take_of_length_le (by omega)
              rw [HT.out] at hrow
              have hql2 := qs_len q
              go_wp2_with fail
              refine (rsorted_any _ (qs q) wr hrow.hold (by omega)).mono ?_
              rintro e w5 ⟨lv, rfl, hrl, hb5⟩
              rw [sortL_eq] at hrl
              have S5 := S4.call hb5
              have JR : Hid (_) := rjoined_r lv (sorted (qs q)) [38]
              rw [← HCQ.out] at JR
              have e1 := (enc_len true p).2
              have HH : Hid (hexL lowF (digest y) = hashT y) := rfl
              have RH : Hid (_) := rhash_any y (by omega)
              rw [HH.out] at RH
              clear S4 hb5 hlt hrow cq hB4
              have f1 : ¬ 9223372036854775807 < m.length + 1 := by omega
              have f2 : ¬ 9223372036854775807 < m.length + 1 + (enc true p).length := by omega
              have f3 : ¬ 9223372036854775807 < m.length + 1 + (enc true p).length + 1 := by omega
              have f4 : ¬ 9223372036854775807 < m.length + 1 + (enc true p).length + 1 + (canonQ q).length := by omega
              have f5 : ¬ 9223372036854775807 < m.length + 1 + (enc true p).length + 1 + (canonQ q).length + 1 := by omega
              have f6 : ¬ 9223372036854775807 < m.length + 1 + (enc true p).length + 1 + (canonQ q).length + 1 + ts.length := by omega
              have f7 : ¬ 9223372036854775807 < m.length + 1 + (enc true p).length + 1 + (canonQ q).length + 1 + ts.length + 1 := by omega
              have f8 : ¬ 9223372036854775807 < m.length + 1 + (enc true p).length + 1 + (canonQ q).length + 1 + ts.length + 1 + list.length := by omega
              have f9 : ¬ 9223372036854775807 < m.length + 1 + (enc true p).length + 1 + (canonQ q).length + 1 + ts.length + 1 + list.length + 1 := by omega
              have f10 : ¬ 9223372036854775807 < m.length + 1 + (enc true p).length + 1 + (canonQ q).length + 1 + ts.length + 1 + list.length + 1 + (hashT y).length := by have := hashT_len y; omega
              have BB : ∀ W, FSt w B b m p y (.slice qa q.length qc) q (.slice ha hs.length hc) hs (.slice none 0 0) [] W → W.cell? ⟨b, 0, none⟩ = some (str m) ∧ W.cell? ⟨b, 1, none⟩ = some (str p) ∧ W.cell? ⟨b, 4, none⟩ = some (str y) := fun W h => ⟨h.d0, h.d1, h.d4⟩
              have c0 := S5.d0
              have c1 := S5.d1
              have c4 := S5.d4
              have HFIN : Hid (_) := str_form m (enc true p) (canonQ q) ts list (hashT y)
              have HTX : Hid (canonText m p (canonQ q) s list (hashT y) = m ++ [10] ++ enc true p ++ [10] ++ canonQ q ++ [10] ++ ts ++ [10] ++ list ++ [10] ++ hashT y) := by show _ = _; rw [canon_told, HTS.out]
              go_wp2_with fail
              go_region_held3 (fun w' => w'.cell? ⟨b, 0, none⟩ = some (str m) ∧ w'.cell? ⟨b, 1, none⟩ = some (str p) ∧ w'.cell? ⟨b, 4, none⟩ = some (str y)) (first | exact BB _ S5 | exact BB _ S5.drew)
                (first
                  | (go_at_call 70; refine (rencode_r p true _ (by omega)).mono ?_; rintro e w6 ⟨rfl, hb6⟩; replace S5 : FSt w B b m p y (.slice qa q.length qc) q (.slice ha hs.length hc) hs (.slice none 0 0) [] w6 := (by first | exact S5.call hb6 | exact S5.drew.call hb6); replace hrl : srow w6 _ lv (sorted (qs q)) := (by first | exact hrl.below hb6 | exact srow.below (w := w5.drew) hrl hb6))
                  | (go_at_call 72; refine (JR.out _ _ hrl.hold (by omega) HQM.out (by simp)).mono ?_; rintro e w7 ⟨rfl, rfl⟩)
                  | (go_at_call 73; refine (RH.out _).mono ?_; rintro e w8 ⟨rfl, hb8⟩; replace S5 : FSt w B b m p y (.slice qa q.length qc) q (.slice ha hs.length hc) hs (.slice none 0 0) [] w8 := (by first | exact S5.call hb8 | exact S5.drew.call hb8)))
              rename_i hHeld
              clear hHeld
              go_wp2
              go_ret2
              exact ⟨(congrArg (fun z => Ending.returned (.tuple #[Value.string z, .bool true])) (HFIN.out.trans (by rw [HTX.out]))).trans (fEnd_ok HX.out), HF.out _ S5.hw⟩
  · have hN : namesOf list = Lib.split list [59] := by simp [namesOf, hl0]
    have hl0' : (list == []) = false := by simpa using hl0
    have SP : Hid (_) := rsplit_any list [59]
    rw [← hN] at SP
    generalize namesOf list = N at *
    go_enter Tryz.func39, Tryz.ntmps39
    go_wp2_with fail
    generalize (w.alloc (.cells #[str m, str p, .slice qa q.length qc, .slice ha hs.length hc, str y] 80)) = W1 at *
    refine (SP.out _ b7 (by simp) (by simp)).mono ?_
    rintro e W0 ⟨nv, rfl, hnr, hb0⟩
    have S1 : FSt w W0.heap.size w.heap.size m p y (.slice qa q.length qc) q (.slice ha hs.length hc) hs nv N W0 := by
      have T := S0.call hb0
      exact ⟨T.d0, T.d1, T.d2, T.d3, T.d4, Nat.lt_of_lt_of_le T.hz T.hB, Nat.le_refl _, T.hq.up T.hB, T.hh.up T.hB, hnr.hold, T.hw⟩
    clear S0 hb0 hnr SP hl0 hN hW
    generalize W0.heap.size = B at *
    generalize hbe : w.heap.size = b at *
    have HF : Hid (∀ W, Below b w W → Below w.heap.size w W) := fun W k => by rw [hbe]; exact k
    clear hbe
    obtain ⟨na, nc, rfl⟩ := S1.hn.len
    go_wp2
    go_loopw [7, 8] (fun t i wr => ∃ (k : Nat) (s : Ps), k ≤ N.length ∧ i = .int .i64 k ∧ t = str (told s) ∧ s.length = k ∧ (∀ x ∈ s, x ∈ hs) ∧ pickRef hs none N = (pickRef hs (lastN N k) (N.drop k)).map (s ++ ·) ∧ FSt w B b m p y (.slice qa q.length qc) q (.slice ha hs.length hc) hs (.slice na N.length nc) N wr) (fun _ i _ => N.length - (intOf i).toNat)
    case atStart => exact ⟨0, [], Nat.zero_le _, rfl, rfl, rfl, by simp, by simp [lastN], S1⟩
    case round =>
      clear S1
      obtain ⟨k, s, hk, rfl, rfl, hsk, hmem, hpk, S2⟩ := hrel
      have HP : Hid (pickRef hs none N = (pickRef hs (lastN N k) (N.drop k)).map (s ++ ·)) := hpk
      have HSK : Hid (s.length = k) := hsk
      have htl := told_len (fun x hx => b8 x (hmem x hx))
      rw [hsk] at htl
      clear hpk hsk
      by_cases hlt : k < N.length
      · obtain ⟨g, e1, hg, cN⟩ := S2.hn.at hlt
        cases e1
        have c3 := S2.d3
        have BB : ∀ W, FSt w B b m p y (.slice qa q.length qc) q (.slice ha hs.length hc) hs (.slice (some ⟨g, 0, none⟩) N.length nc) N W → W.cell? ⟨b, 3, none⟩ = some (.slice ha hs.length hc) ∧ W.cell? ⟨g, k, none⟩ = some (str N[k]) := fun W h => ⟨h.d3, by obtain ⟨g', e, _, c⟩ := h.hn.at hlt; cases e; exact c⟩
        cases hf : findP hs N[k] with
        | none =>
          have HX : Hid (canonOf m p q hs y list = none) := CO1.out (by rw [HP.out, ref_none hlt hf]; rfl)
          go_wp2_with fail
          go_region_held3 (fun w' => w'.cell? ⟨b, 3, none⟩ = some (.slice ha hs.length hc) ∧ w'.cell? ⟨g, k, none⟩ = some (str N[k])) (first | exact BB _ S2 | exact BB _ S2.drew)
            (first | (go_at_call 67; refine (rfind_none S2.drew.hh (by omega) hf).mono ?_; rintro e w6 ⟨rfl, rfl⟩))
          rename_i hHeld
          clear hHeld
          go_wp2_with fail
          go_region
          go_wp2
          go_ret2
          exact ⟨fEnd_no HX.out, HF.out _ S2.drew.drew.hw⟩
        | some v =>
          obtain ⟨l1, l2⟩ := b8 _ (find_in hf)
          simp only at l1 l2
          have HM2 : Hid (∀ x ∈ s ++ [(N[k], v)], x ∈ hs) := fun x hx => by
            rcases List.mem_append.1 hx with hx | hx
            · exact hmem x hx
            · rw [List.mem_singleton] at hx; subst hx; exact find_in hf
          go_wp2_with fail
          go_region_held3 (fun w' => w'.cell? ⟨b, 3, none⟩ = some (.slice ha hs.length hc) ∧ w'.cell? ⟨g, k, none⟩ = some (str N[k])) (first | exact BB _ S2 | exact BB _ S2.drew)
            (first | (go_at_call 67; refine (rfind_some S2.drew.hh (by omega) hf).mono ?_; rintro e w6 ⟨rfl, rfl⟩))
          rename_i hHeld
          clear hHeld
          go_wp2_with fail
          by_cases hau : N[k] = [97, 117, 116, 104]
          · have HX : Hid (canonOf m p q hs y list = none) := CO1.out (by rw [HP.out, ref_auth hlt hf hau]; rfl)
            have hau' : (N[k] == [97, 117, 116, 104]) = true := by simpa using hau
            clear hau
            go_region
            go_wp2
            go_ret2
            exact ⟨fEnd_no HX.out, HF.out _ S2.drew.drew.hw⟩
          · have hau' : (N[k] == [97, 117, 116, 104]) = false := by simpa using hau
            cases k with
            | zero =>
              have HX : Hid (pickRef hs none N = (pickRef hs (lastN N 1) (N.drop 1)).map ((s ++ [(N[0], v)]) ++ ·)) := map_app HP.out (ref_first hlt hf hau)
              clear hau
              go_region
              go_wp2
              go_roundw
              case rel => exact ⟨1, s ++ [(N[0], v)], by omega, by go_num, by rw [told_snoc, str_told], by simp [HSK.out], HM2.out, HX.out, S2.drew.drew⟩
              case measure => simp [intOf]; omega
            | succ j =>
              obtain ⟨g', e', _, cM⟩ := S2.hn.at (show j < N.length by omega)
              cases e'
              rcases ge_cases N[j] N[j + 1] with ⟨hle, hbl⟩ | ⟨hle, hbl⟩
              · have HX : Hid (canonOf m p q hs y list = none) := CO1.out (by rw [HP.out, ref_low hlt hf hle]; rfl)
                clear hau hle
                go_region
                go_wp2
                go_ret2
                exact ⟨fEnd_no HX.out, HF.out _ S2.drew.drew.hw⟩
              · have HX : Hid (pickRef hs none N = (pickRef hs (lastN N (j + 1 + 1)) (N.drop (j + 1 + 1))).map ((s ++ [(N[j + 1], v)]) ++ ·)) := map_app HP.out (ref_next hlt hf hau hle)
                clear hau hle
                go_region
                go_wp2
                go_roundw
                case rel => exact ⟨j + 1 + 1, s ++ [(N[j + 1], v)], by omega, by go_num, by rw [told_snoc, str_told], by simp [HSK.out], HM2.out, HX.out, S2.drew.drew⟩
                case measure => simp [intOf]; omega
      · have HPS : Hid (pickFrom hs [] N = some s) := CO2.out s (by rw [HP.out, List.drop_eq_nil_of_le (by omega)]; simp [pickRef])
        clear HP HSK htl CO1 CO2
        generalize HTS : told s = ts at *
        replace HTS : Hid (told s = ts) := HTS
        have hsl : s.length ≤ 3000000 := by
          have := congrArg List.length (pick_names hs _ _ _ HPS.out)
          rw [List.length_map] at this
          rw [this]; omega
        have HNS : Hid (∀ n, (findP s n).isNone = !hasN N n) := by
          intro n
          rw [findP_names, pick_names hs _ _ _ HPS.out]; rfl
        have htl : ts.length ≤ s.length * 2000002 := by rw [← HTS.out]; exact told_len (fun x hx => b8 x (hmem x hx))
        go_wp2
        go_loopw [11] (fun i wr => ∃ k : Nat, k ≤ hs.length ∧ i = .int .i64 k ∧ misses (hs.take k) s = false ∧ FSt w B b m p y (.slice qa q.length qc) q (.slice ha hs.length hc) hs (.slice na N.length nc) N wr) (fun i _ => hs.length - (intOf i).toNat)
        case atStart => exact ⟨0, Nat.zero_le _, rfl, by simp [misses], S2⟩
        case round =>
          clear S2
          obtain ⟨k, hk, rfl, hno, S3⟩ := hrel
          have HN : Hid (misses (hs.take k) s = false) := hno
          clear hno
          have c3 := S3.d3
          by_cases hlt : k < hs.length
          · obtain ⟨g, e1, hg, c1, c2⟩ := S3.hh.at hlt
            cases e1
            have HS : Hid (misses (hs.take (k + 1)) s = (must hs[k].1 && (findP s hs[k].1).isNone)) := misses_take hlt HN.out
            have HH : Hid ((must hs[k].1 && (findP s hs[k].1).isNone) = true → misses hs s = true) := misses_hit hlt
            have HI : Hid ((findP s hs[k].1).isNone = !hasN N hs[k].1) := HNS.out _
            have HMU : Hid (must hs[k].1 = (hs[k].1 == [104, 111, 115, 116] || hs[k].1 == [108, 101, 110, 103, 116, 104] || ([120, 45] : Bs).isPrefixOf hs[k].1)) := rfl
            obtain ⟨l1, l2⟩ := b8 hs[k] (List.getElem_mem hlt)
            rw [HI.out] at HS HH
            clear HI HNS
            generalize hs[k] = x at *
            obtain ⟨xn, xv⟩ := x
            simp only at c1 c2 HS HH HMU l1 l2
            have BG : Hid (_) := rbegins_r xn [120, 45]
            have NM : Hid (_) := rnamed_r (.slice na N.length nc) N xn
            have HX0 : Hid (misses hs s = true → canonOf m p q hs y list = none) := CO3.out s HPS.out
            rw [HMU.out] at HS HH
            cases hpb : ([120, 45] : Bs).isPrefixOf xn <;> cases he1 : (xn == [104, 111, 115, 116]) <;> cases he2 : (xn == [108, 101, 110, 103, 116, 104]) <;> cases hth : hasN N xn
            all_goals
              rw [hpb, he1, he2, hth] at HS HH
              rw [hpb] at BG
              rw [hth] at NM
              go_wp2_with (first
                | (go_at_call 68; refine (BG.out _ (by omega) (by simp)).mono ?_; rintro e w6 ⟨rfl, rfl⟩)
                | (go_at_call 69; refine (NM.out _ _ S3.hn (by omega)).mono ?_; rintro e w7 ⟨rfl, rfl⟩))
              first
                | (go_ret2
                   exact ⟨fEnd_no (HX0.out (HH.out rfl)), HF.out _ S3.hw⟩)
                | (go_roundw
                   case rel => exact ⟨k + 1, by omega, by go_num, by rw [HS.out]; rfl, S3⟩
                   case measure => simp [intOf]; omega)
          · have HT : Hid (misses hs s = false) := by have := HN.out; rwa [List.take_of_length_le (by omega)] at this
            have HX : Hid (canonOf m p q hs y list = some (canonText m p (canonQ q) s list (hashT y))) := CO4.out s HPS.out HT.out
            clear HN HT HNS CO3 CO4
            go_wp2
            clear hlt hk
            go_loopw [15, 16] (fun v i wr => ∃ k : Nat, k ≤ q.length ∧ i = .int .i64 k ∧ srow wr B v (qs (q.take k)) ∧ FSt w B b m p y (.slice qa q.length qc) q (.slice ha hs.length hc) hs (.slice na N.length nc) N wr) (fun _ i _ => q.length - (intOf i).toNat)
            case atStart => exact ⟨0, Nat.zero_le _, rfl, srow_nil _ _, S3⟩
            case round =>
              clear S3
              obtain ⟨k, hk, rfl, hrow, S4⟩ := hrel
              have cq := S4.d2
              have hB4 := S4.hB
              by_cases hlt : k < q.length
              · obtain ⟨g, e1, hg, c1, c2⟩ := S4.hq.at hlt
                cases e1
                have HS : Hid (qs (q.take (k + 1)) = if q[k].1 = [120, 45, 115, 105, 103] then qs (q.take k) else qs (q.take k) ++ [pairText q[k]]) := qs_take hlt
                obtain ⟨l1, l2⟩ := b4 q[k] (List.getElem_mem hlt)
                have hql : (qs (q.take k)).length ≤ 1000000 := Nat.le_trans (qs_len _) (by rw [List.length_take]; omega)
                have BB : ∀ W, FSt w B b m p y (.slice (some ⟨g, 0, none⟩) q.length qc) q (.slice ha hs.length hc) hs (.slice na N.length nc) N W → W.cell? ⟨b, 2, none⟩ = some (.slice (some ⟨g, 0, none⟩) q.length qc) ∧ W.cell? ⟨g, k * 2, none⟩ = some (str q[k].1) ∧ W.cell? ⟨g, k * 2 + 1, none⟩ = some (str q[k].2) := fun W h => ⟨h.d2, by obtain ⟨g', e, _, c, c'⟩ := h.hq.at hlt; cases e; exact ⟨c, c'⟩⟩
                generalize q[k] = x at *
                obtain ⟨pn, pv⟩ := x
                simp only [pairText] at c1 c2 HS l1 l2 BB
                have e1 := (enc_len false pn).2
                have e2 := (enc_len false pv).2
                generalize qs (q.take k) = o at *
                by_cases hx : pn = [120, 45, 115, 105, 103]
                · have hx' : (pn == [120, 45, 115, 105, 103]) = true := by simpa using hx
                  have HS2 : Hid (qs (q.take (k + 1)) = o) := by show _ = _; rw [HS.out, if_pos hx]
                  clear hx
                  go_wp2
                  go_roundw
                  case rel => exact ⟨k + 1, by omega, by go_num, by rw [HS2.out]; exact hrow, S4⟩
                  case measure => simp [intOf]; omega
                · have hx' : (pn == [120, 45, 115, 105, 103]) = false := by simpa using hx
                  have HS2 : Hid (qs (q.take (k + 1)) = o ++ [enc false pn ++ [61] ++ enc false pv]) := by show _ = _; rw [HS.out, if_neg hx]
                  clear hx HS
                  have f1 : ¬ 9223372036854775807 < (enc false pn).length + 1 := by omega
                  have f2 : ¬ 9223372036854775807 < (enc false pn).length + 1 + (enc false pv).length := by omega
                  have HC2 : Hid (#[Value.string ((⟨(enc false pn).toArray⟩ : ByteArray) ++ ⟨#[61]⟩ ++ ⟨(enc false pv).toArray⟩)] = #[str (enc false pn ++ [61] ++ enc false pv)]) := by
                    show _ = _
                    have e3 : ((⟨(enc false pn).toArray⟩ : ByteArray) ++ ⟨#[61]⟩) = ⟨(enc false pn ++ [61]).toArray⟩ := str_app _ [61]
                    rw [e3, str_app]
                  go_wp2_with fail
                  go_region_held3 (fun w' => w'.cell? ⟨b, 2, none⟩ = some (.slice (some ⟨g, 0, none⟩) q.length qc) ∧ w'.cell? ⟨g, k * 2, none⟩ = some (str pn) ∧ w'.cell? ⟨g, k * 2 + 1, none⟩ = some (str pv)) (first | exact BB _ S4 | exact BB _ S4.drew | exact BB _ (S4.alloc _) | exact BB _ ((S4.alloc _).step hb8))
                    (first
                      | (go_at_call 70; refine (rencode_r _ false _ (by omega)).mono ?_; rintro e w6 ⟨rfl, hb6⟩; replace S4 : FSt w B b m p y (.slice (some ⟨g, 0, none⟩) q.length qc) q (.slice ha hs.length hc) hs (.slice na N.length nc) N w6 := (by first | exact S4.call hb6 | exact S4.drew.call hb6); have hsz := S4.hB; replace hrow : srow w6 B u15 o := (by first | exact hrow.below hb6 | exact srow.below (w := wr.drew) hrow hb6))
                      | (refine sapp_step rfl _ _ rfl B o (enc false pn ++ [61] ++ enc false pv) _ rfl (hrow.alloc _) _ rfl _ (heap_new_eq HC2.out) (by omega) (by simp; omega) ?_; intro v' w8 row8 hg8 hb8))
                  rename_i hHeld
                  clear hHeld
                  go_wp2
                  go_roundw
                  case rel => exact ⟨k + 1, by omega, by go_num, by rw [HS2.out]; exact row8, (S4.alloc _).step hb8⟩
                  case measure => simp [intOf]; omega
              · have HT : Hid (q.take k = q) := List.take_of_length_le (by omega)
                rw [HT.out] at hrow
                have hql2 := qs_len q
                go_wp2_with fail
                refine (rsorted_any _ (qs q) wr hrow.hold (by omega)).mono ?_
                rintro e w5 ⟨lv, rfl, hrl, hb5⟩
                rw [sortL_eq] at hrl
                have S5 := S4.call hb5
                have JR : Hid (_) := rjoined_r lv (sorted (qs q)) [38]
                rw [← HCQ.out] at JR
                have e1 := (enc_len true p).2
                have HH : Hid (hexL lowF (digest y) = hashT y) := rfl
                have RH : Hid (_) := rhash_any y (by omega)
                rw [HH.out] at RH
                clear S4 hb5 hlt hrow cq hB4
                have f1 : ¬ 9223372036854775807 < m.length + 1 := by omega
                have f2 : ¬ 9223372036854775807 < m.length + 1 + (enc true p).length := by omega
                have f3 : ¬ 9223372036854775807 < m.length + 1 + (enc true p).length + 1 := by omega
                have f4 : ¬ 9223372036854775807 < m.length + 1 + (enc true p).length + 1 + (canonQ q).length := by omega
                have f5 : ¬ 9223372036854775807 < m.length + 1 + (enc true p).length + 1 + (canonQ q).length + 1 := by omega
                have f6 : ¬ 9223372036854775807 < m.length + 1 + (enc true p).length + 1 + (canonQ q).length + 1 + ts.length := by omega
                have f7 : ¬ 9223372036854775807 < m.length + 1 + (enc true p).length + 1 + (canonQ q).length + 1 + ts.length + 1 := by omega
                have f8 : ¬ 9223372036854775807 < m.length + 1 + (enc true p).length + 1 + (canonQ q).length + 1 + ts.length + 1 + list.length := by omega
                have f9 : ¬ 9223372036854775807 < m.length + 1 + (enc true p).length + 1 + (canonQ q).length + 1 + ts.length + 1 + list.length + 1 := by omega
                have f10 : ¬ 9223372036854775807 < m.length + 1 + (enc true p).length + 1 + (canonQ q).length + 1 + ts.length + 1 + list.length + 1 + (hashT y).length := by have := hashT_len y; omega
                have BB : ∀ W, FSt w B b m p y (.slice qa q.length qc) q (.slice ha hs.length hc) hs (.slice na N.length nc) N W → W.cell? ⟨b, 0, none⟩ = some (str m) ∧ W.cell? ⟨b, 1, none⟩ = some (str p) ∧ W.cell? ⟨b, 4, none⟩ = some (str y) := fun W h => ⟨h.d0, h.d1, h.d4⟩
                have c0 := S5.d0
                have c1 := S5.d1
                have c4 := S5.d4
                have HFIN : Hid (_) := str_form m (enc true p) (canonQ q) ts list (hashT y)
                have HTX : Hid (canonText m p (canonQ q) s list (hashT y) = m ++ [10] ++ enc true p ++ [10] ++ canonQ q ++ [10] ++ ts ++ [10] ++ list ++ [10] ++ hashT y) := by show _ = _; rw [canon_told, HTS.out]
                go_wp2_with fail
                go_region_held3 (fun w' => w'.cell? ⟨b, 0, none⟩ = some (str m) ∧ w'.cell? ⟨b, 1, none⟩ = some (str p) ∧ w'.cell? ⟨b, 4, none⟩ = some (str y)) (first | exact BB _ S5 | exact BB _ S5.drew)
                  (first
                    | (go_at_call 70; refine (rencode_r p true _ (by omega)).mono ?_; rintro e w6 ⟨rfl, hb6⟩; replace S5 : FSt w B b m p y (.slice qa q.length qc) q (.slice ha hs.length hc) hs (.slice na N.length nc) N w6 := (by first | exact S5.call hb6 | exact S5.drew.call hb6); replace hrl : srow w6 _ lv (sorted (qs q)) := (by first | exact hrl.below hb6 | exact srow.below (w := w5.drew) hrl hb6))
                    | (go_at_call 72; refine (JR.out _ _ hrl.hold (by omega) HQM.out (by simp)).mono ?_; rintro e w7 ⟨rfl, rfl⟩)
                    | (go_at_call 73; refine (RH.out _).mono ?_; rintro e w8 ⟨rfl, hb8⟩; replace S5 : FSt w B b m p y (.slice qa q.length qc) q (.slice ha hs.length hc) hs (.slice na N.length nc) N w8 := (by first | exact S5.call hb8 | exact S5.drew.call hb8)))
                rename_i hHeld
                clear hHeld
                go_wp2
                go_ret2
                exact ⟨(congrArg (fun z => Ending.returned (.tuple #[Value.string z, .bool true])) (HFIN.out.trans (by rw [HTX.out]))).trans (fEnd_ok HX.out), HF.out _ S5.hw⟩
end Go.Proofs.YtinnliapfdpfpaaGreatDoor.R
