/-
  THE DOCUMENT's READER OF JSON: an object.
-/
import Derived.Test.YtinnliapfdpfpaaDoorQArr
import Derived.Test.YtinnliapfdpfpaaDoorPTexts
namespace Go.Proofs.YtinnliapfdpfpaaDoor.P
open Go.RowKit

theorem nrow_slice {w : World} {v : Value} {l : List (List UInt8)} (h : w.ownsRow 0 9 1 v l.length (l.map str)) : ∃ a c, v = .slice a l.length c := by
  rcases h.2 with ⟨e, h0⟩ | ⟨g, cap, cur, e, _⟩
  · exact ⟨none, 0, by rw [e, h0]⟩
  · exact ⟨_, _, e⟩
/-- How an object's reading ends. -/
def oPost (X : Nat → Prop) (b : Nat) (s : List UInt8) (p : Nat) (L : List Nd) (k : Nat) (w : World) (e : Ending) (w' : World) : Prop :=
  ∃ (n q : Nat) (bad : Bool) (M : List Nd), e = .returned (.int .i64 (n : Int)) ∧ TS X b s q bad (L ++ M) w' ∧ Kept (fun g => ¬ X g) w w' ∧ p ≤ q ∧ M.length ≤ q - p + 2 ∧
    match listOf (memOf (val k)) [125] (s.drop p) with
    | none => bad = true
    | some (l, r) => bad = false ∧ s.drop q = r ∧ treeJ (k + 1) (L ++ M) n (.obj l)
/-- The node is done. -/
theorem obj_done {X : Nat → Prop} {b N : Nat} {s : List UInt8} {p : Nat} {L : List Nd} {w0 : World} {q : Nat} {bad dn : Bool} {M : List Nd} {kids : List Nat} {js : List (List UInt8 × J)} {names : List (List UInt8)} {a0 : Option Addr} {c0 : Nat} {a : Option Addr} {c : Nat} {w w' : World} {k : Nat} {e : Ending} (Q : LQ X b N s L w0 123 q bad M names kids (.slice a0 names.length c0) (.slice a kids.length c) w) (hpq : p ≤ q) (hM : M.length ≤ q - p + (if bad then 1 else 0))
    (hA : listAt (memOf (val k)) [125] (s.drop p) js (s.drop q) dn bad) (hTr : bad = false → (names = js.map (·.1) ∧ all2 (fun i (j : List UInt8 × J) => treeJ k (L ++ M) i j.2) kids js)) (hdn : dn = true ∨ bad = true)
    (hp : addPost X b s q bad (L ++ M) ⟨123, [], names, kids⟩ w e w') : oPost X b s p L k w0 e w' := by
  obtain ⟨rfl, ts, kk⟩ := hp
  refine ⟨(L ++ M).length, q, bad, M ++ [⟨123, [], names, kids⟩], rfl, by rw [← List.append_assoc]; exact ts, Q.kept.trans kk (fun _ _ e => e), hpq, ?_, ?_⟩
  · simp; split at hM <;> omega
  · cases bad with
    | true => rw [hA.1 rfl]
    | false =>
      have hd : dn = true := by rcases hdn with e | e; · exact e
                                · cases e
      rw [hA.2.1 rfl hd]
      refine ⟨rfl, rfl, ⟨123, [], names, kids⟩, ?_, rfl, (hTr rfl).1, ?_⟩
      · rw [← List.append_assoc]; simp
      · rw [← List.append_assoc]; exact all2_mono (fun _ _ hr => treeJ.more k _ hr) (hTr rfl).2
theorem obj_node {X : Nat → Prop} {b N : Nat} {s : List UInt8} {L : List Nd} {w0 : World} {q : Nat} {bad : Bool} {M : List Nd} {kids : List Nat} {names : List (List UInt8)} {a0 : Option Addr} {c0 : Nat} {a : Option Addr} {c : Nat} {w : World} (Q : LQ X b N s L w0 123 q bad M names kids (.slice a0 names.length c0) (.slice a kids.length c) w) :
    TS (fun g => X g ∨ (Value.slice a0 names.length c0).ownBlock = some g ∨ (Value.slice a kids.length c).ownBlock = some g) b s q bad (L ++ M) w ∧ nodeAt w (fun g => ¬ X g) (123, [], .slice a0 names.length c0, .slice a kids.length c) ⟨123, [], names, kids⟩ ∧ ∀ g, X g → g < w.heap.size := by
  refine ⟨Q.ts.others (Kept.refl _ w) ?_, ⟨rfl, rfl, Q.rn, Q.rk, fun g e => (Q.on g e).1, fun g e => (Q.ok g e).1⟩, fun g e => Q.top g (Or.inl e)⟩
  rintro g (e | e | e)
  · exact Or.inl (Or.inl e)
  · exact Or.inl (Or.inr (Or.inr (Or.inl e)))
  · exact Or.inl (Or.inr (Or.inr (Or.inr e)))
set_option maxHeartbeats 8000000 in
set_option maxRecDepth 20000 in
theorem rowsObj (k : Nat) (IH : VAt k) (X : Nat → Prop) (b : Nat) (s : List UInt8) (p : Nat) (L : List Nd) (w : World) (d : Int) (hX : ∀ g, X g → g < w.heap.size) (h : TS X b s p false L w) (hs : s.length ≤ 4000) (hbud : L.length + (s.length - p) ≤ 9000) (hd0 : 0 ≤ d) (hd : d + 1 + k = 7) :
    Calls Tryd.prog 122 #[.pointer (some ⟨b, 0, none⟩), .int .u8 123, str [125], .int .i64 d] w (oPost X b s p L k w) := by
  have Q0 := LQ.start hX h 123
  have hd6 : d ≤ 6 := by omega
  have hd1 : 0 ≤ d + 1 := by omega
  obtain ⟨v0, T0, back0⟩ := Q0.cells
  have S0 : Hid (_) := tsees_any b s p false v0 [125] _ T0 hs (by simp)
  go_enter Tryd.func122, Tryd.ntmps122
  go_wp2_with fail
  refine Calls.mono S0.out ?_
  rintro e w1 ⟨rfl, q1, T1, hpq1, hd1', -, K1⟩
  have Q1 := back0 q1 false w1 T1 K1
  have A1 : listAt (memOf (val k)) [125] (s.drop p) [] (s.drop q1) (sawB [125] (s.drop p) false) false := by
    have := listAt.start (memOf_skip (val k)) [125] (s.drop p)
    have e : sawB [125] (s.drop p) false = (tak [125] (s.drop p)).isSome := by unfold sawB; simp
    rw [e]; rw [e] at hd1'; rw [hd1']; exact this
  clear S0 T0 back0 Q0 K1 T1 hd1'
  generalize sawB [125] (s.drop p) false = done at A1 ⊢
  generalize hN : w.heap.size = N at Q1 ⊢
  go_wp2
  go_loopw [10] (fun dv wr => ∃ (q : Nat) (bad done : Bool) (M : List Nd) (names : List (List UInt8)) (kids : List Nat) (js : List (List UInt8 × J)) (vn vk : Value), dv = .bool done ∧ LQ X b N s L w 123 q bad M names kids vn vk wr ∧ names.length ≤ q - p + (if bad then 1 else 0) ∧ p ≤ q ∧ M.length ≤ q - p + (if bad then 1 else 0) ∧ kids.length ≤ q - p + (if bad then 1 else 0) ∧
      listAt (memOf (val k)) [125] (s.drop p) js (s.drop q) done bad ∧ (bad = false → (names = js.map (·.1) ∧ all2 (fun i (j : List UInt8 × J) => treeJ k (L ++ M) i j.2) kids js))) (fun _ wr => 2 * (s.length - stood b wr) + unbad b wr)
  case atStart => exact ⟨q1, false, done, [], [], [], [], .slice none 0 0, .slice none 0 0, rfl, Q1, by simp, hpq1, by simp, by simp, A1, fun _ => ⟨rfl, trivial⟩⟩
  case round =>
    clear Q1 A1 h
    obtain ⟨q, bad, dn, M, names, kids, js, vn, vk, rfl, Q, hnm, hpq, hM, hkd, hA, hTr⟩ := hrel
    obtain ⟨v, T, back⟩ := Q.cells
    have qle := T.le
    have d2 := T.c2
    cases dn with
    | true =>
      have c0 := Q.nc.c0; have c1 := Q.nc.c1
      obtain ⟨va, vc, rfl⟩ := irow_slice Q.rk
      obtain ⟨na, nc', rfl⟩ := nrow_slice Q.rn
      have c2 := Q.nc.c2; have c3 := Q.nc.c3
      obtain ⟨t1, t2, t3⟩ := obj_node Q
      have AD : Hid (_) := tadd_any X b s q bad (L ++ M) 123 [] na names.length nc' va kids.length vc ⟨123, [], names, kids⟩ wr t3 t1 t2 (by simp; split at hM <;> omega)
      clear t1 t2 t3
      go_wp2_with fail
      refine Calls.mono AD.out ?_
      intro e w' hp
      have HP : Hid (_) := obj_done Q hpq hM hA hTr (Or.inl rfl) hp
      obtain ⟨he, -, -⟩ := hp
      obtain ⟨z, hz⟩ : ∃ z : Int, Hid (((L ++ M).length : Int) = z) := ⟨_, rfl⟩
      rw [hz.out] at he
      subst he
      go_wp2
      go_ret
      exact HP.out
    | false =>
      cases bad with
      | true =>
        have c0 := Q.nc.c0; have c1 := Q.nc.c1
        obtain ⟨va, vc, rfl⟩ := irow_slice Q.rk
        obtain ⟨na, nc', rfl⟩ := nrow_slice Q.rn
        have c2 := Q.nc.c2; have c3 := Q.nc.c3
        obtain ⟨t1, t2, t3⟩ := obj_node Q
        have AD : Hid (_) := tadd_any X b s q true (L ++ M) 123 [] na names.length nc' va kids.length vc ⟨123, [], names, kids⟩ wr t3 t1 t2 (by simp; split at hM <;> omega)
        clear t1 t2 t3
        go_wp2_with fail
        refine Calls.mono AD.out ?_
        intro e w' hp
        have HP : Hid (_) := obj_done Q hpq hM hA hTr (Or.inr rfl) hp
        obtain ⟨he, -, -⟩ := hp
        obtain ⟨z, hz⟩ : ∃ z : Int, Hid (((L ++ M).length : Int) = z) := ⟨_, rfl⟩
        rw [hz.out] at he
        subst he
        go_wp2
        go_ret
        exact HP.out
      | false =>
        simp only [Bool.false_eq_true, if_false, Nat.add_zero] at hM hkd hnm
        have HA : Hid (listAt (memOf (val k)) [125] (s.drop p) js (s.drop q) false false) := hA
        have HT : Hid (names = js.map (·.1) ∧ all2 (fun i (j : List UInt8 × J) => treeJ k (L ++ M) i j.2) kids js) := hTr rfl
        have HL : Hid (stood b wr = q) := T.stood
        have HU : Hid (unbad b wr = 1) := T.unbad
        have SM : Hid (_) := tsees_any b s q false v [34] wr T hs (by simp)
        clear hA hTr T
        go_wp2_with fail
        refine Calls.mono SM.out ?_
        rintro e wa ⟨rfl, qa, Ta, hqa, hda, hca, Ka⟩
        have Qa := fun bad' => back qa bad' _ (Ta.setB bad') (Ka.setB 2 _)
        have Qa0 := back qa false wa Ta Ka
        have ua2 := Ta.c2; have ua3 := Ta.f2; have lea := Ta.le
        have TTa : ∀ x, TC b s qa x v (wa.setCell ⟨b, 2, none⟩ (.bool x)) := fun x => Ta.setB x
        clear SM
        cases hsa : sawB [34] (s.drop q) false with
        | false =>
          have ht : tak [34] (s.drop q) = none := by
            unfold sawB at hsa
            cases ht : tak [34] (s.drop q) with
            | none => rfl
            | some r => rw [ht] at hsa; cases hsa
          have HN : Hid (listOf (memOf (val k)) [125] (s.drop p) = none) := HA.out.bad (by unfold memOf; rw [ht])
          have HP : Hid (oPost X b s p L k w (.returned (.int .i64 0)) (wa.setCell ⟨b, 2, none⟩ (.bool true))) := by
            have Qt := Qa true
            refine ⟨0, qa, true, M, rfl, Qt.ts.others (Kept.refl _ _) (fun g e => Or.inl (Or.inl e)), Qt.kept, by omega, by omega, ?_⟩
            rw [HN.out]
          clear Qa Qa0 TTa Ta Ka HN HA HT back
          go_wp2
          go_ret
          exact HP.out
        | true =>
          rw [hsa] at hda hca
          have hca := hca rfl
          simp only [List.length_cons, List.length_nil] at hca
          obtain ⟨ra, hra⟩ : ∃ r, tak [34] (s.drop q) = some r := by
            unfold sawB at hsa
            cases ht : tak [34] (s.drop q) with
            | none => rw [ht] at hsa; cases hsa
            | some r => exact ⟨r, rfl⟩
          have hda' : s.drop qa = ra := by rw [hda]; exact taken_some hra
          have TX : Hid (_) := ttext_any b s qa v wa Ta hs
          go_wp2_with fail
          refine Calls.mono TX.out ?_
          rintro e wb ⟨Kb, x, qb, badb, rfl, Tb, hqb, hxb⟩
          have Qb := back qb badb wb Tb (Ka.then Kb)
          have HXB : Hid (match strOf (s.drop qa) with | none => badb = true | some (y, r) => badb = false ∧ x = y ∧ s.drop qb = r) := hxb
          have e2 := Qb.nc.c2; have g2 := Qb.nc.f2; have rn2 := Qb.rn; have zb : N < wb.heap.size := Qb.nc.lt
          have nn : ∀ x, vn.ownBlock = some x → x ≠ N := fun x hx => (Qb.on x hx).2
          clear TX back Ta Ka Kb Tb hxb Q d2 Qa Qa0 TTa ua2 ua3
          go_wp2_with (at_builtin; refine sapp_law rfl _ _ rfl 0 names x _ rfl (srow.alloc rn2 _) _ rfl _ (heap_alloc_new _ _) (by omega) (Nat.zero_le _) ?_; intro gn capn w7 row7 g7 h7 _; have cV7 := g7.cell (qcell_alloc e2 _) (fun e => nn N e.symm rfl); have fV7 := (Kept.of_grown g7).frozen (a := ⟨N, 2, none⟩) (by simp; omega) ((Kept.of_grown (World.grownBy_alloc _ _ none)).frozen (a := ⟨N, 2, none⟩) (show N < wb.heap.size by omega) g2 (by simp)) (fun e => nn N e rfl))
          have Qc := Qb.pushN ((Below.refl _ _).alloc (Nat.le_refl _) _) row7 g7 h7
          obtain ⟨vc, Tc, backc⟩ := Qc.cells
          clear Qb e2 g2 rn2 nn row7 g7 h7 cV7 fV7 Qc
          generalize (w7.setCell ⟨N, 2, none⟩ (.slice (some ⟨gn, 0, none⟩) (names.length + 1) capn)) = WC at *
          refine Calls.mono (tsees_any b s qb badb vc [58] WC Tc hs (by simp)) ?_
          rintro e wd ⟨rfl, qd, Td, hqd, hdd, hcd, Kd⟩
          have QD := fun bad' => backc qd bad' _ (Td.setB bad') (Kd.setB 2 _)
          have ud2 := Td.c2; have ud3 := Td.f2; have led := Td.le
          clear backc Tc Kd Td
          have hmo : memOf (val k) (s.drop q) = match strOf ra with
              | none => none
              | some (n, r) => match tak [58] r with
                | none => none
                | some r => (val k r).map (fun p => ((n, p.1), p.2)) := by unfold memOf; rw [hra]; rfl
          rw [← hda'] at hmo
          cases badb with
          | true =>
            have HM : Hid (memOf (val k) (s.drop q) = none) := by
              show _ = _
              have hx := HXB.out
              rw [hmo]
              cases hst : strOf (s.drop qa) with
              | none => rfl
              | some yr => rw [hst] at hx; exact absurd hx.1 (by decide)
            have Qd := QD true
            clear QD HXB hmo
            go_wp2_with fail
            generalize (wd.setCell ⟨b, 2, none⟩ (.bool true)) = WD at *
            have VV : Hid (_) := IH (apart X N (.slice (some ⟨gn, 0, none⟩) (names.length + 1) capn) vk) b s qd true (L ++ M) WD (d + 1) Qd.top Qd.ts hs (by simp; omega) hd1 (by omega)
            go_wp2_with fail
            refine Calls.mono VV.out ?_
            rintro e w2 ⟨n2, q2, bad2, M2, rfl, R2, hb2, hv2⟩
            clear VV
            have HV : Hid (match memOf (val k) (s.drop q) with | none => bad2 = true | some ((nm, j), r) => bad2 = false ∧ nm = x ∧ s.drop q2 = r ∧ treeJ k ((L ++ M) ++ M2) n2 j) := by
              show match memOf (val k) (s.drop q) with | none => bad2 = true | some ((nm, j), r) => bad2 = false ∧ nm = x ∧ s.drop q2 = r ∧ treeJ k ((L ++ M) ++ M2) n2 j
              rw [HM.out]; exact hb2 rfl
            clear hb2 hv2
            have Q2 : LQ X b N s L w 123 q2 bad2 (M ++ M2) (names ++ [x]) kids (.slice (some ⟨gn, 0, none⟩) (names.length + 1) capn) vk w2 := Qd.tree (by rw [← List.append_assoc]; exact R2.ts) R2.kept
            have le2 := R2.le
            have few2 := R2.few
            clear R2 Qd
            have e3 := Q2.nc.c3
            have g3 := Q2.nc.f3
            have hk2 := Q2.rk
            have z2 : N < w2.heap.size := Q2.nc.lt
            have nk : ∀ x, vk.ownBlock = some x → x ≠ N := fun x hx => (Q2.ok x hx).2.1
            go_wp2_with (at_builtin; refine iapp_law rfl _ _ rfl kids n2 _ rfl (World.ownsRow.alloc hk2 _) _ rfl _ (heap_alloc_new _ _) (by omega) ?_; intro g8 cap8 w8 row8 g8' h8; have cV8 := g8'.cell (qcell_alloc e3 _) (fun e => nk N e.symm rfl); have fV8 := (Kept.of_grown g8').frozen (a := ⟨N, 3, none⟩) (by simp; omega) ((Kept.of_grown (World.grownBy_alloc _ _ none)).frozen (a := ⟨N, 3, none⟩) (show N < w2.heap.size by omega) g3 (by simp)) (fun e => nk N e rfl))
            have Q3 := Q2.pushK ((Below.refl _ _).alloc (Nat.le_refl _) _) row8 g8' h8
            have M3 : (M ++ M2).length ≤ q2 - p + 1 := by simp; omega
            obtain ⟨v3, T3, back3⟩ := Q3.cells
            clear Q2 e3 g3 hk2 nk row8 g8' h8 cV8 fV8 Q3 few2
            generalize (w8.setCell ⟨N, 3, none⟩ (.slice (some ⟨g8, 0, none⟩) (kids.length + 1) cap8)) = W8 at *
            refine Calls.mono (tsees_any b s q2 bad2 v3 [44] W8 T3 hs (by simp)) ?_
            rintro e w4 ⟨rfl, q4, T4, hpq4, hd4, hc4, K4⟩
            have Q4 := back3 q4 bad2 w4 T4 K4
            clear back3 T3 K4
            have HL4 : Hid (stood b w4 = q4) := T4.stood
            have HU4 := T4.unbad
            have le4 := T4.le
            cases hsaw : sawB [44] (s.drop q2) bad2 with
            | true =>
              rw [hsaw] at hc4 hd4
              have hc4 := hc4 rfl
              simp only [List.length_cons, List.length_nil] at hc4
              obtain ⟨r4, hr4⟩ : ∃ r, tak [44] (s.drop q2) = some r := by
                unfold sawB at hsaw
                cases ht : tak [44] (s.drop q2) with
                | none => rw [ht] at hsaw; cases hsaw
                | some r => exact ⟨r, rfl⟩
              obtain rfl : bad2 = false := by
                unfold sawB at hsaw
                cases bad2
                · rfl
                · rw [Bool.not_true, Bool.and_false] at hsaw; cases hsaw
              have hd4' : s.drop q4 = r4 := by rw [hd4]; exact taken_some hr4
              have REL : Hid (∃ (q : Nat) (bad done : Bool) (M : List Nd) (names : List (List UInt8)) (kids : List Nat) (js : List (List UInt8 × J)) (vn vk : Value), Value.bool false = .bool done ∧ LQ X b N s L w 123 q bad M names kids vn vk w4 ∧ names.length ≤ q - p + (if bad then 1 else 0) ∧ p ≤ q ∧ M.length ≤ q - p + (if bad then 1 else 0) ∧ kids.length ≤ q - p + (if bad then 1 else 0) ∧
                  listAt (memOf (val k)) [125] (s.drop p) js (s.drop q) done bad ∧ (bad = false → (names = js.map (·.1) ∧ all2 (fun i (j : List UInt8 × J) => treeJ k (L ++ M) i j.2) kids js))) := by
                have hv := HV.out
                cases hval : memOf (val k) (s.drop q) with
                | none => rw [hval] at hv; cases hv
                | some jr =>
                  obtain ⟨⟨nm, j⟩, r⟩ := jr
                  rw [hval] at hv
                  obtain ⟨-, rfl, hr, htj⟩ := hv
                  refine ⟨q4, false, false, M ++ M2, names ++ [nm], kids ++ [n2], js ++ [(nm, j)], _, _, rfl, Q4, by simp only [List.length_append, List.length_cons, List.length_nil, Bool.false_eq_true, if_false]; omega, by omega, by simp only [Bool.false_eq_true, if_false]; omega, by simp only [List.length_append, List.length_cons, List.length_nil, Bool.false_eq_true, if_false]; omega, ?_, fun _ => ?_⟩
                  · rw [hd4']; exact HA.out.comma (by decide) (memOf_shrinks (val_shrinks k)) (by rw [hval, ← hr]) hr4
                  · rw [← List.append_assoc]; exact ⟨by rw [HT.out.1]; simp, all2_snoc (R := fun i (j : List UInt8 × J) => treeJ k (L ++ M ++ M2) i j.2) (b := (nm, j)) htj (all2_mono (T := fun i (j : List UInt8 × J) => treeJ k (L ++ M ++ M2) i j.2) (fun _ _ hr => treeJ.more k M2 hr) HT.out.2)⟩
              clear HV HA HT Q4 T4 hd4 hd4' hr4
              go_wp2
              go_roundw
              case rel => exact REL.out
              case measure => rw [HL4.out, HL.out, HU.out, HU4]; simp; omega
            | false =>
              rw [hsaw] at hd4
              simp only [Bool.false_eq_true, if_false] at hd4
              obtain ⟨v4, T4', back4⟩ := Q4.cells
              go_wp2_with fail
              refine Calls.mono (tsees_any b s q4 bad2 v4 [125] w4 T4' hs (by simp)) ?_
              rintro e w5 ⟨rfl, q5, T5, hpq5, hd5, hc5, K5⟩
              have Q5 := fun bad' => back4 q5 bad' _ (T5.setB bad') (K5.setB 2 _)
              have u2 := T5.c2; have u3 := T5.f2
              have LE5 := T5.le
              have TT : ∀ x, TC b s q5 x v4 (w5.setCell ⟨b, 2, none⟩ (.bool x)) := fun x => T5.setB x
              clear back4 T4' K5 T5 Q4 T4
              have HRR : Hid (sawB [125] (s.drop q4) bad2 = ((tak [125] (s.drop q2)).isSome && !bad2)) := by
                show _ = _
                unfold sawB; rw [hd4, tak_skip]
              cases hsh : sawB [125] (s.drop q4) bad2 with
              | true =>
                rw [hsh] at hd5 hc5
                have hc5 := hc5 rfl
                simp only [List.length_cons, List.length_nil] at hc5
                have hr0 := HRR.out
                rw [hsh] at hr0
                obtain rfl : bad2 = false := by
                  cases bad2
                  · rfl
                  · rw [Bool.not_true, Bool.and_false] at hr0; cases hr0
                obtain ⟨r5, hr5⟩ : ∃ r, tak [125] (s.drop q2) = some r := by
                  cases ht : tak [125] (s.drop q2) with
                  | none => rw [ht] at hr0; cases hr0
                  | some r => exact ⟨r, rfl⟩
                have hd5' : s.drop q5 = r5 := by rw [hd5]; exact taken_some (by rw [hd4, tak_skip]; exact hr5)
                have REL : Hid (∃ (q : Nat) (bad done : Bool) (M : List Nd) (names : List (List UInt8)) (kids : List Nat) (js : List (List UInt8 × J)) (vn vk : Value), Value.bool true = .bool done ∧ LQ X b N s L w 123 q bad M names kids vn vk (w5.setCell ⟨b, 2, none⟩ (.bool false)) ∧ names.length ≤ q - p + (if bad then 1 else 0) ∧ p ≤ q ∧ M.length ≤ q - p + (if bad then 1 else 0) ∧ kids.length ≤ q - p + (if bad then 1 else 0) ∧
                    listAt (memOf (val k)) [125] (s.drop p) js (s.drop q) done bad ∧ (bad = false → (names = js.map (·.1) ∧ all2 (fun i (j : List UInt8 × J) => treeJ k (L ++ M) i j.2) kids js))) := by
                  have hv := HV.out
                  cases hval : memOf (val k) (s.drop q) with
                  | none => rw [hval] at hv; cases hv
                  | some jr =>
                    obtain ⟨⟨nm, j⟩, r⟩ := jr
                    rw [hval] at hv
                    obtain ⟨-, rfl, hr, htj⟩ := hv
                    refine ⟨q5, false, true, M ++ M2, names ++ [nm], kids ++ [n2], js ++ [(nm, j)], _, _, rfl, Q5 false, by simp only [List.length_append, List.length_cons, List.length_nil, Bool.false_eq_true, if_false]; omega, by omega, by simp only [Bool.false_eq_true, if_false]; omega, by simp only [List.length_append, List.length_cons, List.length_nil, Bool.false_eq_true, if_false]; omega, ?_, fun _ => ?_⟩
                    · rw [hd5']; exact HA.out.end (by rw [hval, ← hr]) hr5
                    · rw [← List.append_assoc]; exact ⟨by rw [HT.out.1]; simp, all2_snoc (R := fun i (j : List UInt8 × J) => treeJ k (L ++ M ++ M2) i j.2) (b := (nm, j)) htj (all2_mono (T := fun i (j : List UInt8 × J) => treeJ k (L ++ M ++ M2) i j.2) (fun _ _ hr => treeJ.more k M2 hr) HT.out.2)⟩
                have TF := TT false
                have HL5 : Hid (stood b (w5.setCell ⟨b, 2, none⟩ (.bool false)) = q5) := TF.stood
                have HU5 : Hid (_) := TF.unbad
                clear HV HA HT Q5 hd4 hd5 hd5' hr5 HRR hr0 TF TT
                go_wp2
                go_roundw
                case rel => exact REL.out
                case measure => rw [HL5.out, HL.out, HU.out, HU5.out]; simp; omega
              | false =>
                have hr0 := HRR.out
                rw [hsh] at hr0
                have HN : Hid (listOf (memOf (val k)) [125] (s.drop p) = none) := by
                  show _ = _
                  have hv := HV.out
                  cases hval : memOf (val k) (s.drop q) with
                  | none => exact HA.out.bad hval
                  | some jr =>
                    obtain ⟨⟨nm, j⟩, r⟩ := jr
                    rw [hval] at hv
                    obtain ⟨hb2, rfl, hr, htj⟩ := hv
                    subst hb2
                    refine HA.out.neither (by rw [hval, ← hr]) ?_ ?_
                    · cases ht : tak [125] (s.drop q2) with
                      | none => rfl
                      | some r => rw [ht] at hr0; cases hr0
                    · unfold sawB at hsaw
                      cases ht : tak [44] (s.drop q2) with
                      | none => rfl
                      | some r => rw [ht] at hsaw; cases hsaw
                have REL : Hid (∃ (q : Nat) (bad done : Bool) (M : List Nd) (names : List (List UInt8)) (kids : List Nat) (js : List (List UInt8 × J)) (vn vk : Value), Value.bool false = .bool done ∧ LQ X b N s L w 123 q bad M names kids vn vk (w5.setCell ⟨b, 2, none⟩ (.bool true)) ∧ names.length ≤ q - p + (if bad then 1 else 0) ∧ p ≤ q ∧ M.length ≤ q - p + (if bad then 1 else 0) ∧ kids.length ≤ q - p + (if bad then 1 else 0) ∧
                    listAt (memOf (val k)) [125] (s.drop p) js (s.drop q) done bad ∧ (bad = false → (names = js.map (·.1) ∧ all2 (fun i (j : List UInt8 × J) => treeJ k (L ++ M) i j.2) kids js))) :=
                  ⟨q5, true, false, M ++ M2, names ++ [x], kids ++ [n2], js, _, _, rfl, Q5 true, by simp only [List.length_append, List.length_cons, List.length_nil, if_true]; omega, by omega, by simp only [if_true]; omega, by simp only [List.length_append, List.length_cons, List.length_nil, if_true]; omega, listAt.of_bad _ _ _ HN.out, fun e => by cases e⟩
                have TF := TT true
                have HL5 : Hid (stood b (w5.setCell ⟨b, 2, none⟩ (.bool true)) = q5) := TF.stood
                have HU5 : Hid (_) := TF.unbad
                clear HV HA HT Q5 hd4 hd5 HRR hr0 TF TT HN
                cases bad2 with
                | true =>
                  go_wp2
                  go_roundw
                  case rel => exact REL.out
                  case measure => rw [HL5.out, HL.out, HU.out, HU5.out]; simp; omega
                | false =>
                  go_wp2
                  go_roundw
                  case rel => exact REL.out
                  case measure => rw [HL5.out, HL.out, HU.out, HU5.out]; simp; omega

          | false =>
            have hx := HXB.out
            cases hst : strOf (s.drop qa) with
            | none => rw [hst] at hx; cases hx
            | some yr =>
              obtain ⟨y, r⟩ := yr
              rw [hst] at hx hmo
              obtain ⟨-, rfl, hr⟩ := hx
              cases hs5 : sawB [58] (s.drop qb) false with
              | false =>
                have HM : Hid (memOf (val k) (s.drop q) = none) := by
                  show _ = _
                  rw [hmo]; simp only; rw [← hr]
                  unfold sawB at hs5
                  cases ht : tak [58] (s.drop qb) with
                  | none => rfl
                  | some r => rw [ht] at hs5; cases hs5
                have Qd := QD true
                clear QD HXB hmo
                go_wp2_with fail
                generalize (wd.setCell ⟨b, 2, none⟩ (.bool true)) = WD at *
                have VV : Hid (_) := IH (apart X N (.slice (some ⟨gn, 0, none⟩) (names.length + 1) capn) vk) b s qd true (L ++ M) WD (d + 1) Qd.top Qd.ts hs (by simp; omega) hd1 (by omega)
                go_wp2_with fail
                refine Calls.mono VV.out ?_
                rintro e w2 ⟨n2, q2, bad2, M2, rfl, R2, hb2, hv2⟩
                clear VV
                have HV : Hid (match memOf (val k) (s.drop q) with | none => bad2 = true | some ((nm, j), r) => bad2 = false ∧ nm = x ∧ s.drop q2 = r ∧ treeJ k ((L ++ M) ++ M2) n2 j) := by
                  show match memOf (val k) (s.drop q) with | none => bad2 = true | some ((nm, j), r) => bad2 = false ∧ nm = x ∧ s.drop q2 = r ∧ treeJ k ((L ++ M) ++ M2) n2 j
                  rw [HM.out]; exact hb2 rfl
                clear hb2 hv2
                have Q2 : LQ X b N s L w 123 q2 bad2 (M ++ M2) (names ++ [x]) kids (.slice (some ⟨gn, 0, none⟩) (names.length + 1) capn) vk w2 := Qd.tree (by rw [← List.append_assoc]; exact R2.ts) R2.kept
                have le2 := R2.le
                have few2 := R2.few
                clear R2 Qd
                have e3 := Q2.nc.c3
                have g3 := Q2.nc.f3
                have hk2 := Q2.rk
                have z2 : N < w2.heap.size := Q2.nc.lt
                have nk : ∀ x, vk.ownBlock = some x → x ≠ N := fun x hx => (Q2.ok x hx).2.1
                go_wp2_with (at_builtin; refine iapp_law rfl _ _ rfl kids n2 _ rfl (World.ownsRow.alloc hk2 _) _ rfl _ (heap_alloc_new _ _) (by omega) ?_; intro g8 cap8 w8 row8 g8' h8; have cV8 := g8'.cell (qcell_alloc e3 _) (fun e => nk N e.symm rfl); have fV8 := (Kept.of_grown g8').frozen (a := ⟨N, 3, none⟩) (by simp; omega) ((Kept.of_grown (World.grownBy_alloc _ _ none)).frozen (a := ⟨N, 3, none⟩) (show N < w2.heap.size by omega) g3 (by simp)) (fun e => nk N e rfl))
                have Q3 := Q2.pushK ((Below.refl _ _).alloc (Nat.le_refl _) _) row8 g8' h8
                have M3 : (M ++ M2).length ≤ q2 - p + 1 := by simp; omega
                obtain ⟨v3, T3, back3⟩ := Q3.cells
                clear Q2 e3 g3 hk2 nk row8 g8' h8 cV8 fV8 Q3 few2
                generalize (w8.setCell ⟨N, 3, none⟩ (.slice (some ⟨g8, 0, none⟩) (kids.length + 1) cap8)) = W8 at *
                refine Calls.mono (tsees_any b s q2 bad2 v3 [44] W8 T3 hs (by simp)) ?_
                rintro e w4 ⟨rfl, q4, T4, hpq4, hd4, hc4, K4⟩
                have Q4 := back3 q4 bad2 w4 T4 K4
                clear back3 T3 K4
                have HL4 : Hid (stood b w4 = q4) := T4.stood
                have HU4 := T4.unbad
                have le4 := T4.le
                cases hsaw : sawB [44] (s.drop q2) bad2 with
                | true =>
                  rw [hsaw] at hc4 hd4
                  have hc4 := hc4 rfl
                  simp only [List.length_cons, List.length_nil] at hc4
                  obtain ⟨r4, hr4⟩ : ∃ r, tak [44] (s.drop q2) = some r := by
                    unfold sawB at hsaw
                    cases ht : tak [44] (s.drop q2) with
                    | none => rw [ht] at hsaw; cases hsaw
                    | some r => exact ⟨r, rfl⟩
                  obtain rfl : bad2 = false := by
                    unfold sawB at hsaw
                    cases bad2
                    · rfl
                    · rw [Bool.not_true, Bool.and_false] at hsaw; cases hsaw
                  have hd4' : s.drop q4 = r4 := by rw [hd4]; exact taken_some hr4
                  have REL : Hid (∃ (q : Nat) (bad done : Bool) (M : List Nd) (names : List (List UInt8)) (kids : List Nat) (js : List (List UInt8 × J)) (vn vk : Value), Value.bool false = .bool done ∧ LQ X b N s L w 123 q bad M names kids vn vk w4 ∧ names.length ≤ q - p + (if bad then 1 else 0) ∧ p ≤ q ∧ M.length ≤ q - p + (if bad then 1 else 0) ∧ kids.length ≤ q - p + (if bad then 1 else 0) ∧
                      listAt (memOf (val k)) [125] (s.drop p) js (s.drop q) done bad ∧ (bad = false → (names = js.map (·.1) ∧ all2 (fun i (j : List UInt8 × J) => treeJ k (L ++ M) i j.2) kids js))) := by
                    have hv := HV.out
                    cases hval : memOf (val k) (s.drop q) with
                    | none => rw [hval] at hv; cases hv
                    | some jr =>
                      obtain ⟨⟨nm, j⟩, r⟩ := jr
                      rw [hval] at hv
                      obtain ⟨-, rfl, hr, htj⟩ := hv
                      refine ⟨q4, false, false, M ++ M2, names ++ [nm], kids ++ [n2], js ++ [(nm, j)], _, _, rfl, Q4, by simp only [List.length_append, List.length_cons, List.length_nil, Bool.false_eq_true, if_false]; omega, by omega, by simp only [Bool.false_eq_true, if_false]; omega, by simp only [List.length_append, List.length_cons, List.length_nil, Bool.false_eq_true, if_false]; omega, ?_, fun _ => ?_⟩
                      · rw [hd4']; exact HA.out.comma (by decide) (memOf_shrinks (val_shrinks k)) (by rw [hval, ← hr]) hr4
                      · rw [← List.append_assoc]; exact ⟨by rw [HT.out.1]; simp, all2_snoc (R := fun i (j : List UInt8 × J) => treeJ k (L ++ M ++ M2) i j.2) (b := (nm, j)) htj (all2_mono (T := fun i (j : List UInt8 × J) => treeJ k (L ++ M ++ M2) i j.2) (fun _ _ hr => treeJ.more k M2 hr) HT.out.2)⟩
                  clear HV HA HT Q4 T4 hd4 hd4' hr4
                  go_wp2
                  go_roundw
                  case rel => exact REL.out
                  case measure => rw [HL4.out, HL.out, HU.out, HU4]; simp; omega
                | false =>
                  rw [hsaw] at hd4
                  simp only [Bool.false_eq_true, if_false] at hd4
                  obtain ⟨v4, T4', back4⟩ := Q4.cells
                  go_wp2_with fail
                  refine Calls.mono (tsees_any b s q4 bad2 v4 [125] w4 T4' hs (by simp)) ?_
                  rintro e w5 ⟨rfl, q5, T5, hpq5, hd5, hc5, K5⟩
                  have Q5 := fun bad' => back4 q5 bad' _ (T5.setB bad') (K5.setB 2 _)
                  have u2 := T5.c2; have u3 := T5.f2
                  have LE5 := T5.le
                  have TT : ∀ x, TC b s q5 x v4 (w5.setCell ⟨b, 2, none⟩ (.bool x)) := fun x => T5.setB x
                  clear back4 T4' K5 T5 Q4 T4
                  have HRR : Hid (sawB [125] (s.drop q4) bad2 = ((tak [125] (s.drop q2)).isSome && !bad2)) := by
                    show _ = _
                    unfold sawB; rw [hd4, tak_skip]
                  cases hsh : sawB [125] (s.drop q4) bad2 with
                  | true =>
                    rw [hsh] at hd5 hc5
                    have hc5 := hc5 rfl
                    simp only [List.length_cons, List.length_nil] at hc5
                    have hr0 := HRR.out
                    rw [hsh] at hr0
                    obtain rfl : bad2 = false := by
                      cases bad2
                      · rfl
                      · rw [Bool.not_true, Bool.and_false] at hr0; cases hr0
                    obtain ⟨r5, hr5⟩ : ∃ r, tak [125] (s.drop q2) = some r := by
                      cases ht : tak [125] (s.drop q2) with
                      | none => rw [ht] at hr0; cases hr0
                      | some r => exact ⟨r, rfl⟩
                    have hd5' : s.drop q5 = r5 := by rw [hd5]; exact taken_some (by rw [hd4, tak_skip]; exact hr5)
                    have REL : Hid (∃ (q : Nat) (bad done : Bool) (M : List Nd) (names : List (List UInt8)) (kids : List Nat) (js : List (List UInt8 × J)) (vn vk : Value), Value.bool true = .bool done ∧ LQ X b N s L w 123 q bad M names kids vn vk (w5.setCell ⟨b, 2, none⟩ (.bool false)) ∧ names.length ≤ q - p + (if bad then 1 else 0) ∧ p ≤ q ∧ M.length ≤ q - p + (if bad then 1 else 0) ∧ kids.length ≤ q - p + (if bad then 1 else 0) ∧
                        listAt (memOf (val k)) [125] (s.drop p) js (s.drop q) done bad ∧ (bad = false → (names = js.map (·.1) ∧ all2 (fun i (j : List UInt8 × J) => treeJ k (L ++ M) i j.2) kids js))) := by
                      have hv := HV.out
                      cases hval : memOf (val k) (s.drop q) with
                      | none => rw [hval] at hv; cases hv
                      | some jr =>
                        obtain ⟨⟨nm, j⟩, r⟩ := jr
                        rw [hval] at hv
                        obtain ⟨-, rfl, hr, htj⟩ := hv
                        refine ⟨q5, false, true, M ++ M2, names ++ [nm], kids ++ [n2], js ++ [(nm, j)], _, _, rfl, Q5 false, by simp only [List.length_append, List.length_cons, List.length_nil, Bool.false_eq_true, if_false]; omega, by omega, by simp only [Bool.false_eq_true, if_false]; omega, by simp only [List.length_append, List.length_cons, List.length_nil, Bool.false_eq_true, if_false]; omega, ?_, fun _ => ?_⟩
                        · rw [hd5']; exact HA.out.end (by rw [hval, ← hr]) hr5
                        · rw [← List.append_assoc]; exact ⟨by rw [HT.out.1]; simp, all2_snoc (R := fun i (j : List UInt8 × J) => treeJ k (L ++ M ++ M2) i j.2) (b := (nm, j)) htj (all2_mono (T := fun i (j : List UInt8 × J) => treeJ k (L ++ M ++ M2) i j.2) (fun _ _ hr => treeJ.more k M2 hr) HT.out.2)⟩
                    have TF := TT false
                    have HL5 : Hid (stood b (w5.setCell ⟨b, 2, none⟩ (.bool false)) = q5) := TF.stood
                    have HU5 : Hid (_) := TF.unbad
                    clear HV HA HT Q5 hd4 hd5 hd5' hr5 HRR hr0 TF TT
                    go_wp2
                    go_roundw
                    case rel => exact REL.out
                    case measure => rw [HL5.out, HL.out, HU.out, HU5.out]; simp; omega
                  | false =>
                    have hr0 := HRR.out
                    rw [hsh] at hr0
                    have HN : Hid (listOf (memOf (val k)) [125] (s.drop p) = none) := by
                      show _ = _
                      have hv := HV.out
                      cases hval : memOf (val k) (s.drop q) with
                      | none => exact HA.out.bad hval
                      | some jr =>
                        obtain ⟨⟨nm, j⟩, r⟩ := jr
                        rw [hval] at hv
                        obtain ⟨hb2, rfl, hr, htj⟩ := hv
                        subst hb2
                        refine HA.out.neither (by rw [hval, ← hr]) ?_ ?_
                        · cases ht : tak [125] (s.drop q2) with
                          | none => rfl
                          | some r => rw [ht] at hr0; cases hr0
                        · unfold sawB at hsaw
                          cases ht : tak [44] (s.drop q2) with
                          | none => rfl
                          | some r => rw [ht] at hsaw; cases hsaw
                    have REL : Hid (∃ (q : Nat) (bad done : Bool) (M : List Nd) (names : List (List UInt8)) (kids : List Nat) (js : List (List UInt8 × J)) (vn vk : Value), Value.bool false = .bool done ∧ LQ X b N s L w 123 q bad M names kids vn vk (w5.setCell ⟨b, 2, none⟩ (.bool true)) ∧ names.length ≤ q - p + (if bad then 1 else 0) ∧ p ≤ q ∧ M.length ≤ q - p + (if bad then 1 else 0) ∧ kids.length ≤ q - p + (if bad then 1 else 0) ∧
                        listAt (memOf (val k)) [125] (s.drop p) js (s.drop q) done bad ∧ (bad = false → (names = js.map (·.1) ∧ all2 (fun i (j : List UInt8 × J) => treeJ k (L ++ M) i j.2) kids js))) :=
                      ⟨q5, true, false, M ++ M2, names ++ [x], kids ++ [n2], js, _, _, rfl, Q5 true, by simp only [List.length_append, List.length_cons, List.length_nil, if_true]; omega, by omega, by simp only [if_true]; omega, by simp only [List.length_append, List.length_cons, List.length_nil, if_true]; omega, listAt.of_bad _ _ _ HN.out, fun e => by cases e⟩
                    have TF := TT true
                    have HL5 : Hid (stood b (w5.setCell ⟨b, 2, none⟩ (.bool true)) = q5) := TF.stood
                    have HU5 : Hid (_) := TF.unbad
                    clear HV HA HT Q5 hd4 hd5 HRR hr0 TF TT HN
                    cases bad2 with
                    | true =>
                      go_wp2
                      go_roundw
                      case rel => exact REL.out
                      case measure => rw [HL5.out, HL.out, HU.out, HU5.out]; simp; omega
                    | false =>
                      go_wp2
                      go_roundw
                      case rel => exact REL.out
                      case measure => rw [HL5.out, HL.out, HU.out, HU5.out]; simp; omega

              | true =>
                have HM : Hid (memOf (val k) (s.drop q) = (val k (s.drop qd)).map (fun p => ((x, p.1), p.2))) := by
                  show _ = _
                  rw [hmo]; simp only; rw [← hr]
                  rw [hs5] at hdd
                  unfold sawB at hs5
                  cases ht : tak [58] (s.drop qb) with
                  | none => rw [ht] at hs5; cases hs5
                  | some r => simp only; rw [hdd]; simp only [if_true]; rw [taken_some ht]
                have Qd := QD false
                clear QD HXB hmo
                go_wp2_with fail
                generalize (wd.setCell ⟨b, 2, none⟩ (.bool false)) = WD at *
                have VV : Hid (_) := IH (apart X N (.slice (some ⟨gn, 0, none⟩) (names.length + 1) capn) vk) b s qd false (L ++ M) WD (d + 1) Qd.top Qd.ts hs (by simp; omega) hd1 (by omega)
                go_wp2_with fail
                refine Calls.mono VV.out ?_
                rintro e w2 ⟨n2, q2, bad2, M2, rfl, R2, hb2, hv2⟩
                clear VV
                have HV : Hid (match memOf (val k) (s.drop q) with | none => bad2 = true | some ((nm, j), r) => bad2 = false ∧ nm = x ∧ s.drop q2 = r ∧ treeJ k ((L ++ M) ++ M2) n2 j) := by
                  show match memOf (val k) (s.drop q) with | none => bad2 = true | some ((nm, j), r) => bad2 = false ∧ nm = x ∧ s.drop q2 = r ∧ treeJ k ((L ++ M) ++ M2) n2 j
                  rw [HM.out]
                  have hv := hv2 rfl
                  cases hval : val k (s.drop qd) with
                  | none => rw [hval] at hv; exact hv
                  | some jr =>
                    obtain ⟨j, r⟩ := jr
                    rw [hval] at hv
                    exact ⟨hv.1, rfl, hv.2⟩
                clear hb2 hv2
                have Q2 : LQ X b N s L w 123 q2 bad2 (M ++ M2) (names ++ [x]) kids (.slice (some ⟨gn, 0, none⟩) (names.length + 1) capn) vk w2 := Qd.tree (by rw [← List.append_assoc]; exact R2.ts) R2.kept
                have le2 := R2.le
                have few2 := R2.few
                clear R2 Qd
                have e3 := Q2.nc.c3
                have g3 := Q2.nc.f3
                have hk2 := Q2.rk
                have z2 : N < w2.heap.size := Q2.nc.lt
                have nk : ∀ x, vk.ownBlock = some x → x ≠ N := fun x hx => (Q2.ok x hx).2.1
                go_wp2_with (at_builtin; refine iapp_law rfl _ _ rfl kids n2 _ rfl (World.ownsRow.alloc hk2 _) _ rfl _ (heap_alloc_new _ _) (by omega) ?_; intro g8 cap8 w8 row8 g8' h8; have cV8 := g8'.cell (qcell_alloc e3 _) (fun e => nk N e.symm rfl); have fV8 := (Kept.of_grown g8').frozen (a := ⟨N, 3, none⟩) (by simp; omega) ((Kept.of_grown (World.grownBy_alloc _ _ none)).frozen (a := ⟨N, 3, none⟩) (show N < w2.heap.size by omega) g3 (by simp)) (fun e => nk N e rfl))
                have Q3 := Q2.pushK ((Below.refl _ _).alloc (Nat.le_refl _) _) row8 g8' h8
                have M3 : (M ++ M2).length ≤ q2 - p + 1 := by simp; omega
                obtain ⟨v3, T3, back3⟩ := Q3.cells
                clear Q2 e3 g3 hk2 nk row8 g8' h8 cV8 fV8 Q3 few2
                generalize (w8.setCell ⟨N, 3, none⟩ (.slice (some ⟨g8, 0, none⟩) (kids.length + 1) cap8)) = W8 at *
                refine Calls.mono (tsees_any b s q2 bad2 v3 [44] W8 T3 hs (by simp)) ?_
                rintro e w4 ⟨rfl, q4, T4, hpq4, hd4, hc4, K4⟩
                have Q4 := back3 q4 bad2 w4 T4 K4
                clear back3 T3 K4
                have HL4 : Hid (stood b w4 = q4) := T4.stood
                have HU4 := T4.unbad
                have le4 := T4.le
                cases hsaw : sawB [44] (s.drop q2) bad2 with
                | true =>
                  rw [hsaw] at hc4 hd4
                  have hc4 := hc4 rfl
                  simp only [List.length_cons, List.length_nil] at hc4
                  obtain ⟨r4, hr4⟩ : ∃ r, tak [44] (s.drop q2) = some r := by
                    unfold sawB at hsaw
                    cases ht : tak [44] (s.drop q2) with
                    | none => rw [ht] at hsaw; cases hsaw
                    | some r => exact ⟨r, rfl⟩
                  obtain rfl : bad2 = false := by
                    unfold sawB at hsaw
                    cases bad2
                    · rfl
                    · rw [Bool.not_true, Bool.and_false] at hsaw; cases hsaw
                  have hd4' : s.drop q4 = r4 := by rw [hd4]; exact taken_some hr4
                  have REL : Hid (∃ (q : Nat) (bad done : Bool) (M : List Nd) (names : List (List UInt8)) (kids : List Nat) (js : List (List UInt8 × J)) (vn vk : Value), Value.bool false = .bool done ∧ LQ X b N s L w 123 q bad M names kids vn vk w4 ∧ names.length ≤ q - p + (if bad then 1 else 0) ∧ p ≤ q ∧ M.length ≤ q - p + (if bad then 1 else 0) ∧ kids.length ≤ q - p + (if bad then 1 else 0) ∧
                      listAt (memOf (val k)) [125] (s.drop p) js (s.drop q) done bad ∧ (bad = false → (names = js.map (·.1) ∧ all2 (fun i (j : List UInt8 × J) => treeJ k (L ++ M) i j.2) kids js))) := by
                    have hv := HV.out
                    cases hval : memOf (val k) (s.drop q) with
                    | none => rw [hval] at hv; cases hv
                    | some jr =>
                      obtain ⟨⟨nm, j⟩, r⟩ := jr
                      rw [hval] at hv
                      obtain ⟨-, rfl, hr, htj⟩ := hv
                      refine ⟨q4, false, false, M ++ M2, names ++ [nm], kids ++ [n2], js ++ [(nm, j)], _, _, rfl, Q4, by simp only [List.length_append, List.length_cons, List.length_nil, Bool.false_eq_true, if_false]; omega, by omega, by simp only [Bool.false_eq_true, if_false]; omega, by simp only [List.length_append, List.length_cons, List.length_nil, Bool.false_eq_true, if_false]; omega, ?_, fun _ => ?_⟩
                      · rw [hd4']; exact HA.out.comma (by decide) (memOf_shrinks (val_shrinks k)) (by rw [hval, ← hr]) hr4
                      · rw [← List.append_assoc]; exact ⟨by rw [HT.out.1]; simp, all2_snoc (R := fun i (j : List UInt8 × J) => treeJ k (L ++ M ++ M2) i j.2) (b := (nm, j)) htj (all2_mono (T := fun i (j : List UInt8 × J) => treeJ k (L ++ M ++ M2) i j.2) (fun _ _ hr => treeJ.more k M2 hr) HT.out.2)⟩
                  clear HV HA HT Q4 T4 hd4 hd4' hr4
                  go_wp2
                  go_roundw
                  case rel => exact REL.out
                  case measure => rw [HL4.out, HL.out, HU.out, HU4]; simp; omega
                | false =>
                  rw [hsaw] at hd4
                  simp only [Bool.false_eq_true, if_false] at hd4
                  obtain ⟨v4, T4', back4⟩ := Q4.cells
                  go_wp2_with fail
                  refine Calls.mono (tsees_any b s q4 bad2 v4 [125] w4 T4' hs (by simp)) ?_
                  rintro e w5 ⟨rfl, q5, T5, hpq5, hd5, hc5, K5⟩
                  have Q5 := fun bad' => back4 q5 bad' _ (T5.setB bad') (K5.setB 2 _)
                  have u2 := T5.c2; have u3 := T5.f2
                  have LE5 := T5.le
                  have TT : ∀ x, TC b s q5 x v4 (w5.setCell ⟨b, 2, none⟩ (.bool x)) := fun x => T5.setB x
                  clear back4 T4' K5 T5 Q4 T4
                  have HRR : Hid (sawB [125] (s.drop q4) bad2 = ((tak [125] (s.drop q2)).isSome && !bad2)) := by
                    show _ = _
                    unfold sawB; rw [hd4, tak_skip]
                  cases hsh : sawB [125] (s.drop q4) bad2 with
                  | true =>
                    rw [hsh] at hd5 hc5
                    have hc5 := hc5 rfl
                    simp only [List.length_cons, List.length_nil] at hc5
                    have hr0 := HRR.out
                    rw [hsh] at hr0
                    obtain rfl : bad2 = false := by
                      cases bad2
                      · rfl
                      · rw [Bool.not_true, Bool.and_false] at hr0; cases hr0
                    obtain ⟨r5, hr5⟩ : ∃ r, tak [125] (s.drop q2) = some r := by
                      cases ht : tak [125] (s.drop q2) with
                      | none => rw [ht] at hr0; cases hr0
                      | some r => exact ⟨r, rfl⟩
                    have hd5' : s.drop q5 = r5 := by rw [hd5]; exact taken_some (by rw [hd4, tak_skip]; exact hr5)
                    have REL : Hid (∃ (q : Nat) (bad done : Bool) (M : List Nd) (names : List (List UInt8)) (kids : List Nat) (js : List (List UInt8 × J)) (vn vk : Value), Value.bool true = .bool done ∧ LQ X b N s L w 123 q bad M names kids vn vk (w5.setCell ⟨b, 2, none⟩ (.bool false)) ∧ names.length ≤ q - p + (if bad then 1 else 0) ∧ p ≤ q ∧ M.length ≤ q - p + (if bad then 1 else 0) ∧ kids.length ≤ q - p + (if bad then 1 else 0) ∧
                        listAt (memOf (val k)) [125] (s.drop p) js (s.drop q) done bad ∧ (bad = false → (names = js.map (·.1) ∧ all2 (fun i (j : List UInt8 × J) => treeJ k (L ++ M) i j.2) kids js))) := by
                      have hv := HV.out
                      cases hval : memOf (val k) (s.drop q) with
                      | none => rw [hval] at hv; cases hv
                      | some jr =>
                        obtain ⟨⟨nm, j⟩, r⟩ := jr
                        rw [hval] at hv
                        obtain ⟨-, rfl, hr, htj⟩ := hv
                        refine ⟨q5, false, true, M ++ M2, names ++ [nm], kids ++ [n2], js ++ [(nm, j)], _, _, rfl, Q5 false, by simp only [List.length_append, List.length_cons, List.length_nil, Bool.false_eq_true, if_false]; omega, by omega, by simp only [Bool.false_eq_true, if_false]; omega, by simp only [List.length_append, List.length_cons, List.length_nil, Bool.false_eq_true, if_false]; omega, ?_, fun _ => ?_⟩
                        · rw [hd5']; exact HA.out.end (by rw [hval, ← hr]) hr5
                        · rw [← List.append_assoc]; exact ⟨by rw [HT.out.1]; simp, all2_snoc (R := fun i (j : List UInt8 × J) => treeJ k (L ++ M ++ M2) i j.2) (b := (nm, j)) htj (all2_mono (T := fun i (j : List UInt8 × J) => treeJ k (L ++ M ++ M2) i j.2) (fun _ _ hr => treeJ.more k M2 hr) HT.out.2)⟩
                    have TF := TT false
                    have HL5 : Hid (stood b (w5.setCell ⟨b, 2, none⟩ (.bool false)) = q5) := TF.stood
                    have HU5 : Hid (_) := TF.unbad
                    clear HV HA HT Q5 hd4 hd5 hd5' hr5 HRR hr0 TF TT
                    go_wp2
                    go_roundw
                    case rel => exact REL.out
                    case measure => rw [HL5.out, HL.out, HU.out, HU5.out]; simp; omega
                  | false =>
                    have hr0 := HRR.out
                    rw [hsh] at hr0
                    have HN : Hid (listOf (memOf (val k)) [125] (s.drop p) = none) := by
                      show _ = _
                      have hv := HV.out
                      cases hval : memOf (val k) (s.drop q) with
                      | none => exact HA.out.bad hval
                      | some jr =>
                        obtain ⟨⟨nm, j⟩, r⟩ := jr
                        rw [hval] at hv
                        obtain ⟨hb2, rfl, hr, htj⟩ := hv
                        subst hb2
                        refine HA.out.neither (by rw [hval, ← hr]) ?_ ?_
                        · cases ht : tak [125] (s.drop q2) with
                          | none => rfl
                          | some r => rw [ht] at hr0; cases hr0
                        · unfold sawB at hsaw
                          cases ht : tak [44] (s.drop q2) with
                          | none => rfl
                          | some r => rw [ht] at hsaw; cases hsaw
                    have REL : Hid (∃ (q : Nat) (bad done : Bool) (M : List Nd) (names : List (List UInt8)) (kids : List Nat) (js : List (List UInt8 × J)) (vn vk : Value), Value.bool false = .bool done ∧ LQ X b N s L w 123 q bad M names kids vn vk (w5.setCell ⟨b, 2, none⟩ (.bool true)) ∧ names.length ≤ q - p + (if bad then 1 else 0) ∧ p ≤ q ∧ M.length ≤ q - p + (if bad then 1 else 0) ∧ kids.length ≤ q - p + (if bad then 1 else 0) ∧
                        listAt (memOf (val k)) [125] (s.drop p) js (s.drop q) done bad ∧ (bad = false → (names = js.map (·.1) ∧ all2 (fun i (j : List UInt8 × J) => treeJ k (L ++ M) i j.2) kids js))) :=
                      ⟨q5, true, false, M ++ M2, names ++ [x], kids ++ [n2], js, _, _, rfl, Q5 true, by simp only [List.length_append, List.length_cons, List.length_nil, if_true]; omega, by omega, by simp only [if_true]; omega, by simp only [List.length_append, List.length_cons, List.length_nil, if_true]; omega, listAt.of_bad _ _ _ HN.out, fun e => by cases e⟩
                    have TF := TT true
                    have HL5 : Hid (stood b (w5.setCell ⟨b, 2, none⟩ (.bool true)) = q5) := TF.stood
                    have HU5 : Hid (_) := TF.unbad
                    clear HV HA HT Q5 hd4 hd5 HRR hr0 TF TT HN
                    cases bad2 with
                    | true =>
                      go_wp2
                      go_roundw
                      case rel => exact REL.out
                      case measure => rw [HL5.out, HL.out, HU.out, HU5.out]; simp; omega
                    | false =>
                      go_wp2
                      go_roundw
                      case rel => exact REL.out
                      case measure => rw [HL5.out, HL.out, HU.out, HU5.out]; simp; omega

end Go.Proofs.YtinnliapfdpfpaaDoor.P
