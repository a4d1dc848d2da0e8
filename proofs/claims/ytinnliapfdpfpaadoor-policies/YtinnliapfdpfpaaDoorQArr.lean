/-
  THE DOCUMENT's READER OF JSON: an array.
-/
import Derived.Test.YtinnliapfdpfpaaDoorQLq
namespace Go.Proofs.YtinnliapfdpfpaaDoor.P
open Go.RowKit

/-- How an array's reading ends. -/
def aPost (X : Nat → Prop) (b : Nat) (s : List UInt8) (p : Nat) (L : List Nd) (k : Nat) (w : World) (e : Ending) (w' : World) : Prop :=
  ∃ (n q : Nat) (bad : Bool) (M : List Nd), e = .returned (.int .i64 (n : Int)) ∧ TS X b s q bad (L ++ M) w' ∧ Kept (fun g => ¬ X g) w w' ∧ p ≤ q ∧ M.length ≤ q - p + 2 ∧
    match listOf (val k) [93] (s.drop p) with
    | none => bad = true
    | some (l, r) => bad = false ∧ s.drop q = r ∧ treeJ (k + 1) (L ++ M) n (.arr l)
def unbad (b : Nat) (w : World) : Nat := match w.cell? ⟨b, 2, none⟩ with
  | some (.bool true) => 0
  | _ => 1
theorem TC.unbad {b : Nat} {s : List UInt8} {p : Nat} {bad : Bool} {v : Value} {w : World} (h : TC b s p bad v w) : unbad b w = if bad then 0 else 1 := by unfold P.unbad; rw [h.c2]; cases bad <;> rfl
theorem irow_slice {w : World} {v : Value} {l : List Nat} (h : irow w v l) : ∃ a c, v = .slice a l.length c := by
  rcases h.2 with ⟨e, h0⟩ | ⟨g, cap, cur, e, _⟩
  · exact ⟨none, 0, by rw [e, h0]⟩
  · exact ⟨_, _, e⟩
/-- The node is done. -/
theorem arr_done {X : Nat → Prop} {b N : Nat} {s : List UInt8} {p : Nat} {L : List Nd} {w0 : World} {q : Nat} {bad dn : Bool} {M : List Nd} {kids : List Nat} {js : List J} {a : Option Addr} {c : Nat} {w w' : World} {k : Nat} {e : Ending} (Q : LQ X b N s L w0 91 q bad M [] kids (.slice none 0 0) (.slice a kids.length c) w) (hpq : p ≤ q) (hM : M.length ≤ q - p + (if bad then 1 else 0))
    (hA : listAt (val k) [93] (s.drop p) js (s.drop q) dn bad) (hTr : bad = false → all2 (treeJ k (L ++ M)) kids js) (hdn : dn = true ∨ bad = true)
    (hp : addPost X b s q bad (L ++ M) ⟨91, [], [], kids⟩ w e w') : aPost X b s p L k w0 e w' := by
  obtain ⟨rfl, ts, kk⟩ := hp
  refine ⟨(L ++ M).length, q, bad, M ++ [⟨91, [], [], kids⟩], rfl, by rw [← List.append_assoc]; exact ts, Q.kept.trans kk (fun _ _ e => e), hpq, ?_, ?_⟩
  · simp; split at hM <;> omega
  · cases bad with
    | true => rw [hA.1 rfl]
    | false =>
      have hd : dn = true := by rcases hdn with e | e; · exact e
                                · cases e
      rw [hA.2.1 rfl hd]
      refine ⟨rfl, rfl, ⟨91, [], [], kids⟩, ?_, rfl, rfl, ?_⟩
      · rw [← List.append_assoc]; simp
      · rw [← List.append_assoc]; exact all2_mono (fun _ _ hr => treeJ.more k _ hr) (hTr rfl)
theorem arr_node {X : Nat → Prop} {b N : Nat} {s : List UInt8} {L : List Nd} {w0 : World} {q : Nat} {bad : Bool} {M : List Nd} {kids : List Nat} {a : Option Addr} {c : Nat} {w : World} (Q : LQ X b N s L w0 91 q bad M [] kids (.slice none 0 0) (.slice a kids.length c) w) :
    TS (fun g => X g ∨ (Value.slice none 0 0).ownBlock = some g ∨ (Value.slice a kids.length c).ownBlock = some g) b s q bad (L ++ M) w ∧ nodeAt w (fun g => ¬ X g) (91, [], .slice none 0 0, .slice a kids.length c) ⟨91, [], [], kids⟩ ∧ ∀ g, X g → g < w.heap.size := by
  refine ⟨Q.ts.others (Kept.refl _ w) ?_, ⟨rfl, rfl, Q.rn, Q.rk, fun g e => (Q.on g e).1, fun g e => (Q.ok g e).1⟩, fun g e => Q.top g (Or.inl e)⟩
  rintro g (e | e | e)
  · exact Or.inl (Or.inl e)
  · cases e
  · exact Or.inl (Or.inr (Or.inr (Or.inr e)))
set_option maxHeartbeats 8000000 in
set_option maxRecDepth 20000 in
theorem rowsArr (k : Nat) (IH : VAt k) (X : Nat → Prop) (b : Nat) (s : List UInt8) (p : Nat) (L : List Nd) (w : World) (d : Int) (hX : ∀ g, X g → g < w.heap.size) (h : TS X b s p false L w) (hs : s.length ≤ 4000) (hbud : L.length + (s.length - p) ≤ 9000) (hd0 : 0 ≤ d) (hd : d + 1 + k = 7) :
    Calls Tryd.prog 122 #[.pointer (some ⟨b, 0, none⟩), .int .u8 91, str [93], .int .i64 d] w (aPost X b s p L k w) := by
  have Q0 := LQ.start hX h 91
  have hd6 : d ≤ 6 := by omega
  have hd1 : 0 ≤ d + 1 := by omega
  obtain ⟨v0, T0, back0⟩ := Q0.cells
  have S0 : Hid (_) := tsees_any b s p false v0 [93] _ T0 hs (by simp)
  go_enter Tryd.func122, Tryd.ntmps122
  go_wp2_with fail
  refine Calls.mono S0.out ?_
  rintro e w1 ⟨rfl, q1, T1, hpq1, hd1', -, K1⟩
  have Q1 := back0 q1 false w1 T1 K1
  have A1 : listAt (val k) [93] (s.drop p) [] (s.drop q1) (sawB [93] (s.drop p) false) false := by
    have := listAt.start (val_skip k) [93] (s.drop p)
    have e : sawB [93] (s.drop p) false = (tak [93] (s.drop p)).isSome := by unfold sawB; simp
    rw [e]; rw [e] at hd1'; rw [hd1']; exact this
  clear S0 T0 back0 Q0 K1 T1 hd1'
  generalize sawB [93] (s.drop p) false = done at A1 ⊢
  generalize hN : w.heap.size = N at Q1 ⊢
  go_wp2
  go_loopw [10] (fun dv wr => ∃ (q : Nat) (bad done : Bool) (M : List Nd) (kids : List Nat) (js : List J) (vk : Value), dv = .bool done ∧ LQ X b N s L w 91 q bad M [] kids (.slice none 0 0) vk wr ∧ p ≤ q ∧ M.length ≤ q - p + (if bad then 1 else 0) ∧ kids.length ≤ q - p + (if bad then 1 else 0) ∧
      listAt (val k) [93] (s.drop p) js (s.drop q) done bad ∧ (bad = false → all2 (treeJ k (L ++ M)) kids js)) (fun _ wr => 2 * (s.length - stood b wr) + unbad b wr)
  case atStart => exact ⟨q1, false, done, [], [], [], .slice none 0 0, rfl, Q1, hpq1, by simp, by simp, A1, fun _ => trivial⟩
  case round =>
    clear Q1 A1 h
    obtain ⟨q, bad, dn, M, kids, js, vk, rfl, Q, hpq, hM, hkd, hA, hTr⟩ := hrel
    obtain ⟨v, T, back⟩ := Q.cells
    have qle := T.le
    have d2 := T.c2
    cases dn with
    | true =>
      have c0 := Q.nc.c0; have c1 := Q.nc.c1; have c2 := Q.nc.c2
      obtain ⟨va, vc, rfl⟩ := irow_slice Q.rk
      have c3 := Q.nc.c3
      obtain ⟨t1, t2, t3⟩ := arr_node Q
      have AD : Hid (_) := tadd_any X b s q bad (L ++ M) 91 [] none 0 0 va kids.length vc ⟨91, [], [], kids⟩ wr t3 t1 t2 (by simp; split at hM <;> omega)
      clear t1 t2 t3
      go_wp2_with fail
      refine Calls.mono AD.out ?_
      intro e w' hp
      have HP : Hid (_) := arr_done Q hpq hM hA hTr (Or.inl rfl) hp
      obtain ⟨he, -, -⟩ := hp
      obtain ⟨z, hz⟩ : ∃ z : Int, Hid (((L ++ M).length : Int) = z) := ⟨_, rfl⟩
      rw [hz.out] at he
      subst he
      go_wp2
      go_ret
      exact HP.out
    | false =>
      cases bad with
      | true =>
        have c0 := Q.nc.c0; have c1 := Q.nc.c1; have c2 := Q.nc.c2
        obtain ⟨va, vc, rfl⟩ := irow_slice Q.rk
        have c3 := Q.nc.c3
        obtain ⟨t1, t2, t3⟩ := arr_node Q
        have AD : Hid (_) := tadd_any X b s q true (L ++ M) 91 [] none 0 0 va kids.length vc ⟨91, [], [], kids⟩ wr t3 t1 t2 (by simp; split at hM <;> omega)
        clear t1 t2 t3
        go_wp2_with fail
        refine Calls.mono AD.out ?_
        intro e w' hp
        have HP : Hid (_) := arr_done Q hpq hM hA hTr (Or.inr rfl) hp
        obtain ⟨he, -, -⟩ := hp
        obtain ⟨z, hz⟩ : ∃ z : Int, Hid (((L ++ M).length : Int) = z) := ⟨_, rfl⟩
        rw [hz.out] at he
        subst he
        go_wp2
        go_ret
        exact HP.out
      | false =>
        simp only [Bool.false_eq_true, if_false, Nat.add_zero] at hM hkd
        have HA : Hid (listAt (val k) [93] (s.drop p) js (s.drop q) false false) := hA
        have HT : Hid (all2 (treeJ k (L ++ M)) kids js) := hTr rfl
        have HL : Hid (stood b wr = q) := T.stood
        have HU : Hid (unbad b wr = 1) := T.unbad
        have VV : Hid (_) := IH (apart X N (.slice none 0 0) vk) b s q false (L ++ M) wr (d + 1) Q.top Q.ts hs (by simp; omega) hd1 (by omega)
        clear hA hTr back T
        go_wp2_with fail
        refine Calls.mono VV.out ?_
        rintro e w2 ⟨n2, q2, bad2, M2, rfl, R2, -, hv2⟩
        clear VV
        have HV : Hid (match val k (s.drop q) with | none => bad2 = true | some (j, r) => bad2 = false ∧ s.drop q2 = r ∧ treeJ k ((L ++ M) ++ M2) n2 j) := hv2 rfl
        clear hv2
        have Q2 : LQ X b N s L w 91 q2 bad2 (M ++ M2) [] kids (.slice none 0 0) vk w2 := Q.tree (by rw [← List.append_assoc]; exact R2.ts) R2.kept
        have le2 := R2.le
        have few2 := R2.few
        clear R2 Q d2
        have e3 := Q2.nc.c3
        have g3 := Q2.nc.f3
        have hk2 := Q2.rk
        have z2 : N < w2.heap.size := Q2.nc.lt
        have nk : ∀ x, vk.ownBlock = some x → x ≠ N := fun x hx => (Q2.ok x hx).2.1
        go_wp2_with (at_builtin; refine iapp_law rfl _ _ rfl kids n2 _ rfl (World.ownsRow.alloc hk2 _) _ rfl _ (heap_alloc_new _ _) (by omega) ?_; intro g8 cap8 w8 row8 g8' h8; have cV8 := g8'.cell (qcell_alloc e3 _) (fun e => nk N e.symm rfl); have fV8 := (Kept.of_grown g8').frozen (a := ⟨N, 3, none⟩) (by simp; omega) ((Kept.of_grown (World.grownBy_alloc _ _ none)).frozen (a := ⟨N, 3, none⟩) (show N < w2.heap.size by omega) g3 (by simp)) (fun e => nk N e rfl))
        have Q3 := Q2.pushK ((Below.refl _ _).alloc (Nat.le_refl _) _) row8 g8' h8
        have M3 : (M ++ M2).length ≤ q2 - p + 1 := by simp; omega
        obtain ⟨v3, T3, back3⟩ := Q3.cells
        clear Q2 e3 g3 hk2 nk row8 g8' h8 cV8 fV8 Q3 few2
        generalize (w8.setCell ⟨N, 3, none⟩ (.slice (some ⟨g8, 0, none⟩) (kids.length + 1) cap8)) = W8 at *
        refine Calls.mono (tsees_any b s q2 bad2 v3 [44] W8 T3 hs (by simp)) ?_
        rintro e w4 ⟨rfl, q4, T4, hpq4, hd4, hc4, K4⟩
        have Q4 := back3 q4 bad2 w4 T4 K4
        clear back3 T3 K4
        have HL4 : Hid (stood b w4 = q4) := T4.stood
        have HU4 := T4.unbad
        have le4 := T4.le
        cases hsaw : sawB [44] (s.drop q2) bad2 with
        | true =>
          rw [hsaw] at hc4 hd4
          have hc4 := hc4 rfl
          simp only [List.length_cons, List.length_nil] at hc4
          obtain ⟨r4, hr4⟩ : ∃ r, tak [44] (s.drop q2) = some r := by
            unfold sawB at hsaw
            cases ht : tak [44] (s.drop q2) with
            | none => rw [ht] at hsaw; cases hsaw
            | some r => exact ⟨r, rfl⟩
          obtain rfl : bad2 = false := by
            unfold sawB at hsaw
            cases bad2
            · rfl
            · rw [Bool.not_true, Bool.and_false] at hsaw; cases hsaw
          have hd4' : s.drop q4 = r4 := by rw [hd4]; exact taken_some hr4
          have REL : Hid (∃ (q : Nat) (bad done : Bool) (M : List Nd) (kids : List Nat) (js : List J) (vk : Value), Value.bool false = .bool done ∧ LQ X b N s L w 91 q bad M [] kids (.slice none 0 0) vk w4 ∧ p ≤ q ∧ M.length ≤ q - p + (if bad then 1 else 0) ∧ kids.length ≤ q - p + (if bad then 1 else 0) ∧
              listAt (val k) [93] (s.drop p) js (s.drop q) done bad ∧ (bad = false → all2 (treeJ k (L ++ M)) kids js)) := by
            have hv := HV.out
            cases hval : val k (s.drop q) with
            | none => rw [hval] at hv; cases hv
            | some jr =>
              obtain ⟨j, r⟩ := jr
              rw [hval] at hv
              obtain ⟨-, hr, htj⟩ := hv
              refine ⟨q4, false, false, M ++ M2, kids ++ [n2], js ++ [j], _, rfl, Q4, by omega, by simp only [Bool.false_eq_true, if_false]; omega, by simp only [List.length_append, List.length_cons, List.length_nil, Bool.false_eq_true, if_false]; omega, ?_, fun _ => ?_⟩
              · rw [hd4']; exact HA.out.comma (by decide) (val_shrinks k) (by rw [hval, ← hr]) hr4
              · rw [← List.append_assoc]; exact all2_snoc htj (all2_mono (fun _ _ hr => treeJ.more k _ hr) HT.out)
          clear HV HA HT Q4 T4 hd4 hd4' hr4
          go_wp2
          go_roundw
          case rel => exact REL.out
          case measure => rw [HL4.out, HL.out, HU.out, HU4]; simp; omega
        | false =>
          rw [hsaw] at hd4
          simp only [Bool.false_eq_true, if_false] at hd4
          obtain ⟨v4, T4', back4⟩ := Q4.cells
          go_wp2_with fail
          refine Calls.mono (tsees_any b s q4 bad2 v4 [93] w4 T4' hs (by simp)) ?_
          rintro e w5 ⟨rfl, q5, T5, hpq5, hd5, hc5, K5⟩
          have Q5 := fun bad' => back4 q5 bad' _ (T5.setB bad') (K5.setB 2 _)
          have u2 := T5.c2; have u3 := T5.f2
          have LE5 := T5.le
          have TT : ∀ x, TC b s q5 x v4 (w5.setCell ⟨b, 2, none⟩ (.bool x)) := fun x => T5.setB x
          clear back4 T4' K5 T5 Q4 T4
          have HRR : Hid (sawB [93] (s.drop q4) bad2 = ((tak [93] (s.drop q2)).isSome && !bad2)) := by
            show _ = _
            unfold sawB; rw [hd4, tak_skip]
          cases hsh : sawB [93] (s.drop q4) bad2 with
          | true =>
            rw [hsh] at hd5 hc5
            have hc5 := hc5 rfl
            simp only [List.length_cons, List.length_nil] at hc5
            have hr0 := HRR.out
            rw [hsh] at hr0
            obtain rfl : bad2 = false := by
              cases bad2
              · rfl
              · rw [Bool.not_true, Bool.and_false] at hr0; cases hr0
            obtain ⟨r5, hr5⟩ : ∃ r, tak [93] (s.drop q2) = some r := by
              cases ht : tak [93] (s.drop q2) with
              | none => rw [ht] at hr0; cases hr0
              | some r => exact ⟨r, rfl⟩
            have hd5' : s.drop q5 = r5 := by rw [hd5]; exact taken_some (by rw [hd4, tak_skip]; exact hr5)
            have REL : Hid (∃ (q : Nat) (bad done : Bool) (M : List Nd) (kids : List Nat) (js : List J) (vk : Value), Value.bool true = .bool done ∧ LQ X b N s L w 91 q bad M [] kids (.slice none 0 0) vk (w5.setCell ⟨b, 2, none⟩ (.bool false)) ∧ p ≤ q ∧ M.length ≤ q - p + (if bad then 1 else 0) ∧ kids.length ≤ q - p + (if bad then 1 else 0) ∧
                listAt (val k) [93] (s.drop p) js (s.drop q) done bad ∧ (bad = false → all2 (treeJ k (L ++ M)) kids js)) := by
              have hv := HV.out
              cases hval : val k (s.drop q) with
              | none => rw [hval] at hv; cases hv
              | some jr =>
                obtain ⟨j, r⟩ := jr
                rw [hval] at hv
                obtain ⟨-, hr, htj⟩ := hv
                refine ⟨q5, false, true, M ++ M2, kids ++ [n2], js ++ [j], _, rfl, Q5 false, by omega, by simp only [Bool.false_eq_true, if_false]; omega, by simp only [List.length_append, List.length_cons, List.length_nil, Bool.false_eq_true, if_false]; omega, ?_, fun _ => ?_⟩
                · rw [hd5']; exact HA.out.end (by rw [hval, ← hr]) hr5
                · rw [← List.append_assoc]; exact all2_snoc htj (all2_mono (fun _ _ hr => treeJ.more k _ hr) HT.out)
            have TF := TT false
            have HL5 : Hid (stood b (w5.setCell ⟨b, 2, none⟩ (.bool false)) = q5) := TF.stood
            have HU5 : Hid (_) := TF.unbad
            clear HV HA HT Q5 hd4 hd5 hd5' hr5 HRR hr0 TF TT
            go_wp2
            go_roundw
            case rel => exact REL.out
            case measure => rw [HL5.out, HL.out, HU.out, HU5.out]; simp; omega
          | false =>
            have hr0 := HRR.out
            rw [hsh] at hr0
            have HN : Hid (listOf (val k) [93] (s.drop p) = none) := by
              show _ = _
              have hv := HV.out
              cases hval : val k (s.drop q) with
              | none => exact HA.out.bad hval
              | some jr =>
                obtain ⟨j, r⟩ := jr
                rw [hval] at hv
                obtain ⟨hb2, hr, htj⟩ := hv
                subst hb2
                refine HA.out.neither (by rw [hval, ← hr]) ?_ ?_
                · cases ht : tak [93] (s.drop q2) with
                  | none => rfl
                  | some r => rw [ht] at hr0; cases hr0
                · unfold sawB at hsaw
                  cases ht : tak [44] (s.drop q2) with
                  | none => rfl
                  | some r => rw [ht] at hsaw; cases hsaw
            have REL : Hid (∃ (q : Nat) (bad done : Bool) (M : List Nd) (kids : List Nat) (js : List J) (vk : Value), Value.bool false = .bool done ∧ LQ X b N s L w 91 q bad M [] kids (.slice none 0 0) vk (w5.setCell ⟨b, 2, none⟩ (.bool true)) ∧ p ≤ q ∧ M.length ≤ q - p + (if bad then 1 else 0) ∧ kids.length ≤ q - p + (if bad then 1 else 0) ∧
                listAt (val k) [93] (s.drop p) js (s.drop q) done bad ∧ (bad = false → all2 (treeJ k (L ++ M)) kids js)) :=
              ⟨q5, true, false, M ++ M2, kids ++ [n2], js, _, rfl, Q5 true, by omega, by simp only [if_true]; omega, by simp only [List.length_append, List.length_cons, List.length_nil, if_true]; omega, listAt.of_bad _ _ _ HN.out, fun e => by cases e⟩
            have TF := TT true
            have HL5 : Hid (stood b (w5.setCell ⟨b, 2, none⟩ (.bool true)) = q5) := TF.stood
            have HU5 : Hid (_) := TF.unbad
            clear HV HA HT Q5 hd4 hd5 HRR hr0 TF TT HN
            cases bad2 with
            | true =>
              go_wp2
              go_roundw
              case rel => exact REL.out
              case measure => rw [HL5.out, HL.out, HU.out, HU5.out]; simp; omega
            | false =>
              go_wp2
              go_roundw
              case rel => exact REL.out
              case measure => rw [HL5.out, HL.out, HU.out, HU5.out]; simp; omega
end Go.Proofs.YtinnliapfdpfpaaDoor.P
