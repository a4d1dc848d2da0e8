/-
  POLICIES OF JSON VALUES: a rule.
-/
import Derived.Test.YtinnliapfdpfpaaDoorPTexts
namespace Go.Proofs.YtinnliapfdpfpaaDoor.P
open Go.RowKit

/-- How a rule lies in memory. -/
structure relR (w : World) (P : Nat → Prop) (q : Int × Value × Value × Value) (r : RuleP) : Prop where
  says : q.1 = if r.deny then 2 else 1
  who : srow w 0 q.2.1 r.who
  act : srow w 0 q.2.2.1 r.act
  on : srow w 0 q.2.2.2 r.on
  pw : ∀ g, q.2.1.ownBlock = some g → P g
  pa : ∀ g, q.2.2.1.ownBlock = some g → P g
  po : ∀ g, q.2.2.2.ownBlock = some g → P g
  sz : r.who.length ≤ 4 ∧ r.act.length ≤ 4 ∧ r.on.length ≤ 4 ∧ ∀ y ∈ r.on, y.length ≤ 4000
theorem relR.mono {w : World} {P Q : Nat → Prop} {q : Int × Value × Value × Value} {r : RuleP} (h : relR w P q r) (hq : ∀ g, P g → Q g) : relR w Q q r :=
  ⟨h.says, h.who, h.act, h.on, fun g e => hq g (h.pw g e), fun g e => hq g (h.pa g e), fun g e => hq g (h.po g e), h.sz⟩
theorem relR.kept {w w' : World} {S P : Nat → Prop} {q : Int × Value × Value × Value} {r : RuleP} (h : relR w P q r) (k : Kept S w w') (hq : ∀ g, P g → ¬ S g) : relR w' P q r :=
  ⟨h.says, k.row h.who (fun g e => hq g (h.pw g e)), k.row h.act (fun g e => hq g (h.pa g e)), k.row h.on (fun g e => hq g (h.po g e)), h.pw, h.pa, h.po, h.sz⟩
theorem relR.inb {w : World} {P : Nat → Prop} {q : Int × Value × Value × Value} {r : RuleP} (h : relR w P q r) : relR w (fun g => P g ∧ g < w.heap.size) q r :=
  ⟨h.says, h.who, h.act, h.on, fun g e => ⟨h.pw g e, (World.ownsRow.lt h.who g e).2⟩, fun g e => ⟨h.pa g e, (World.ownsRow.lt h.act g e).2⟩, fun g e => ⟨h.po g e, (World.ownsRow.lt h.on g e).2⟩, h.sz⟩
def rulePost (w : World) (o : Option RuleP) (e : Ending) (w' : World) : Prop :=
  Below w.heap.size w w' ∧ match o with
  | none => e = .panicked noP
  | some r => ∃ q : Int × Value × Value × Value, e = .returned (.agg #[.int .i64 q.1, q.2.1, q.2.2.1, q.2.2.2]) ∧ relR w' (fun g => w.heap.size ≤ g) q r
theorem rulePost_no {w w' : World} {o : Option RuleP} (h : o = none) (hb : Below w.heap.size w w') : rulePost w o (.panicked noP) w' := by subst h; exact ⟨hb, rfl⟩
def ruleL (l : List (List UInt8 × J)) : Option RuleP := match findM l sEffect with
      | none => none
      | some e => match effJ e with
        | none => none
        | some d => match findM l sWho with
          | none => none
          | some w => match goodJ whoP w with
            | none => none
            | some w => match findM l sDo with
              | none => none
              | some a => match goodJ actP a with
                | none => none
                | some a => match findM l sOn with
                  | none => none
                  | some o => match goodJ (fun _ => true) o with
                    | none => none
                    | some o => some ⟨d, w, a, o⟩
theorem ruleJ_is (j : J) : ruleJ j = match objN 4 j with
    | none => none
    | some l => ruleL l := by
  cases j with
  | obj l =>
    show (if l.length = 4 then ruleL l else none) = (match (if l.length = 4 then some l else none : Option (List (List UInt8 × J))) with | none => none | some l => ruleL l)
    by_cases h : l.length = 4
    · rw [if_pos h, if_pos h]
    · rw [if_neg h, if_neg h]
  | _ => rfl
theorem srow0 {w : World} {B : Nat} {v : Value} {l : List (List UInt8)} (h : srow w B v l) : srow w 0 v l := row_mono h
/-- What comes out of a row is a slice. -/
theorem srow_slice {w : World} {B : Nat} {v : Value} {l : List (List UInt8)} (h : srow w B v l) : ∃ a n c, v = .slice a n c := by
  obtain ⟨a, cap, rfl, _⟩ := row_view h
  exact ⟨a, _, cap, rfl⟩

theorem readEffect_some (k : Nat) (v : Value) (j : J) (d : Bool) (x : Int) (w : World) (h : repJ k w (inW w) v j) (hd : effJ j = some d) (hx : x = if d then 2 else 1) :
    Calls Tryd.prog 116 #[v] w fun e w' => e = .returned (.int .i64 x) ∧ w = w' := by
  have := readEffect_any k v j w h
  rw [hd] at this; rw [hx]; exact this
theorem readEffect_none (k : Nat) (v : Value) (j : J) (w : World) (h : repJ k w (inW w) v j) (hd : effJ j = none) :
    Calls Tryd.prog 116 #[v] w fun e w' => e = .panicked noP ∧ w = w' := by
  have := readEffect_any k v j w h
  rw [hd] at this; exact this
theorem who_list (k : Nat) (v : Value) (j : J) (w : World) (h : repJ k w (inW w) v j) : Calls Tryd.prog 117 #[v, .func (.func 118) #[] #[]] w (textsPost w (goodJ whoP j)) :=
  rreadList_any whoP 118 (enters_of Tryd.func118 (by kernel_rfl) rfl) (fun s w hs => isWho_any s w (by omega)) k v j w h
theorem act_list (k : Nat) (v : Value) (j : J) (w : World) (h : repJ k w (inW w) v j) : Calls Tryd.prog 117 #[v, .func (.func 119) #[] #[]] w (textsPost w (goodJ actP j)) :=
  rreadList_any actP 119 (enters_of Tryd.func119 (by kernel_rfl) rfl) (fun s w _ => isAction_any s w) k v j w h
theorem on_list (k : Nat) (v : Value) (j : J) (w : World) (h : repJ k w (inW w) v j) : Calls Tryd.prog 117 #[v, .func (.func 120) #[] #[]] w (textsPost w (goodJ (fun _ => true) j)) :=
  rreadList_any (fun _ => true) 120 (enters_of Tryd.func120 (by kernel_rfl) rfl) (fun s w _ => isPattern_any s w) k v j w h
/-- The four cells of the rule that is to come out. -/
def cells4 (b : Nat) (w : World) : Prop := w.cell? ⟨b, 0, none⟩ = some (.int .i64 0) ∧ w.cell? ⟨b, 1, none⟩ = some (.slice none 0 0) ∧ w.cell? ⟨b, 2, none⟩ = some (.slice none 0 0) ∧ w.cell? ⟨b, 3, none⟩ = some (.slice none 0 0) ∧ w.frozen? ⟨b, 0, none⟩ = false ∧ w.frozen? ⟨b, 1, none⟩ = false ∧ w.frozen? ⟨b, 2, none⟩ = false ∧ w.frozen? ⟨b, 3, none⟩ = false
theorem keep4 {b : Nat} {w w' : World} (h : cells4 b w) (k : Below w.heap.size w w') : cells4 b w' := by
  obtain ⟨h0, h1, h2, h3, h4, h5, h6, h7⟩ := h
  have hb : b < w.heap.size := World.block_lt_of_cell? w ⟨b, 0, none⟩ h0
  exact ⟨(k.cell (p := ⟨b, 0, none⟩) hb).trans h0, (k.cell (p := ⟨b, 1, none⟩) hb).trans h1, (k.cell (p := ⟨b, 2, none⟩) hb).trans h2, (k.cell (p := ⟨b, 3, none⟩) hb).trans h3, (k.frozen (p := ⟨b, 0, none⟩) hb).trans h4, (k.frozen (p := ⟨b, 1, none⟩) hb).trans h5, (k.frozen (p := ⟨b, 2, none⟩) hb).trans h6, (k.frozen (p := ⟨b, 3, none⟩) hb).trans h7⟩
abbrev zeroR : Obj := .cells #[.int .i64 0, .slice none 0 0, .slice none 0 0, .slice none 0 0] 113
set_option maxHeartbeats 4000000 in
set_option maxRecDepth 20000 in
theorem readRule_any (k : Nat) (v : Value) (j : J) (w : World) (h : repJ k w (inW w) v j) :
    Calls Tryd.prog 85 #[v] w (rulePost w (ruleJ j)) := by
  have b0 : Below w.heap.size w (w.alloc zeroR) := (Below.refl _ _).alloc (Nat.le_refl _) _
  have M := membersOf_any k v j (w.alloc zeroR) 4 (RJ_alloc h _)
  have HR : Hid (ruleJ j = match objN 4 j with | none => none | some l => ruleL l) := ruleJ_is j
  cases ho : objN 4 j with
  | none =>
    rw [ho] at M HR
    have M2 : Calls Tryd.prog 83 #[v, .int .i64 4] (w.alloc zeroR) fun e w' => e = .panicked noP ∧ w.alloc zeroR = w' := M
    clear M
    go_enter Tryd.func85, Tryd.ntmps85
    go_wp2_with (go_at_call 83; refine M2.mono ?_; rintro e w' ⟨rfl, rfl⟩)
    exact ⟨rfl, rulePost_no HR.out b0⟩
  | some l =>
    rw [ho] at M HR
    have M2 : Calls Tryd.prog 83 #[v, .int .i64 4] (w.alloc zeroR) fun e w' => (∃ sl, e = .returned sl ∧ membs (k - 1) (w.alloc zeroR) sl l) ∧ w.alloc zeroR = w' := M
    have hl4 : l.length ≤ 1000000 := by
      cases j with
      | obj m => simp only [objN] at ho; split at ho <;> simp_all
      | _ => cases ho
    clear M
    go_enter Tryd.func85, Tryd.ntmps85
    go_wp2_with fail
    refine M2.mono ?_
    rintro e w' ⟨⟨sl, rfl, hm⟩, rfl⟩
    clear M2 h
    have B0 := b0
    have cz : cells4 w.heap.size (w.alloc zeroR) := by refine ⟨?_, ?_, ?_, ?_, ?_, ?_, ?_, ?_⟩ <;> simp [go_sem]
    clear b0
    go_wp2_with fail
    refine (find_any (k - 1) sl l sEffect _ hm hl4).mono ?_
    cases hE : findM l sEffect with
    | none =>
      rintro e w1 ⟨b1, rfl⟩
      have HN : Hid (ruleJ j = none) := by show _ = _; rw [HR.out]; unfold ruleL; simp only [hE]
      clear HR
      go_wp2
      exact ⟨rfl, rulePost_no HN.out (below_trans B0 b1)⟩
    | some jE =>
      rintro e w1 ⟨b1, vE, rfl, rE⟩
      replace B0 := below_trans B0 b1
      replace hm := hm.below b1
      replace cz := keep4 cz b1
      clear b1
      go_wp2_with fail
      cases hX : effJ jE with
      | none =>
        refine (readEffect_none (k - 1) vE jE _ rE hX).mono ?_
        rintro e w2 ⟨rfl, rfl⟩
        have HN : Hid (ruleJ j = none) := by show _ = _; rw [HR.out]; unfold ruleL; simp only [hE, hX]
        clear HR
        go_wp2
        exact ⟨rfl, rulePost_no HN.out B0⟩
      | some dE =>
        obtain ⟨x, HX⟩ : ∃ x : Int, Hid (x = if dE then 2 else 1) := ⟨_, rfl⟩
        refine (readEffect_some (k - 1) vE jE dE x _ rE hX HX.out).mono ?_
        rintro e w2 ⟨rfl, rfl⟩
        go_wp2_with fail
        refine (find_any (k - 1) sl l sWho _ hm hl4).mono ?_
        cases hW : findM l sWho with
        | none =>
          rintro e w3 ⟨b3, rfl⟩
          have HN : Hid (ruleJ j = none) := by show _ = _; rw [HR.out]; unfold ruleL; simp only [hE, hX, hW]
          clear HR
          go_wp2
          exact ⟨rfl, rulePost_no HN.out (below_trans B0 b3)⟩
        | some jW =>
          rintro e w3 ⟨b3, vW, rfl, rW⟩
          replace B0 := below_trans B0 b3
          replace hm := hm.below b3
          replace cz := keep4 cz b3
          clear b3
          go_wp2_with fail
          refine (who_list (k - 1) vW jW _ rW).mono ?_
          cases hXW : goodJ whoP jW with
          | none =>
            rintro e w4 ⟨b4, rfl⟩
            have HN : Hid (ruleJ j = none) := by show _ = _; rw [HR.out]; unfold ruleL; simp only [hE, hX, hW, hXW]
            clear HR
            go_wp2
            exact ⟨rfl, rulePost_no HN.out (below_trans B0 b4)⟩
          | some lW =>
            rintro e w4 ⟨b4, uW, rfl, sW, mW, yW⟩
            have zW := World.block_lt_of_cell? _ ⟨w.heap.size, 0, none⟩ cz.1
            replace B0 := below_trans B0 b4
            replace hm := hm.below b4
            replace cz := keep4 cz b4
            have pW : ∀ g, uW.ownBlock = some g → w.heap.size < g := fun g hg => by have := (World.ownsRow.lt sW g hg).1; simp at zW; omega
            clear b4 zW
            go_wp2_with fail
            refine (find_any (k - 1) sl l sDo _ hm hl4).mono ?_
            cases hD : findM l sDo with
            | none =>
              rintro e w5 ⟨b5, rfl⟩
              have HN : Hid (ruleJ j = none) := by show _ = _; rw [HR.out]; unfold ruleL; simp only [hE, hX, hW, hXW, hD]
              clear HR
              go_wp2
              exact ⟨rfl, rulePost_no HN.out (below_trans B0 b5)⟩
            | some jD =>
              rintro e w5 ⟨b5, vD, rfl, rD⟩
              replace B0 := below_trans B0 b5
              replace hm := hm.below b5
              replace cz := keep4 cz b5
              replace sW := sW.below b5
              clear b5
              go_wp2_with fail
              refine (act_list (k - 1) vD jD _ rD).mono ?_
              cases hXD : goodJ actP jD with
              | none =>
                rintro e w6 ⟨b6, rfl⟩
                have HN : Hid (ruleJ j = none) := by show _ = _; rw [HR.out]; unfold ruleL; simp only [hE, hX, hW, hXW, hD, hXD]
                clear HR
                go_wp2
                exact ⟨rfl, rulePost_no HN.out (below_trans B0 b6)⟩
              | some lD =>
                rintro e w6 ⟨b6, uD, rfl, sD, mD, yD⟩
                have zD := World.block_lt_of_cell? _ ⟨w.heap.size, 0, none⟩ cz.1
                replace B0 := below_trans B0 b6
                replace hm := hm.below b6
                replace cz := keep4 cz b6
                replace sW := sW.below b6
                have pD : ∀ g, uD.ownBlock = some g → w.heap.size < g := fun g hg => by have := (World.ownsRow.lt sD g hg).1; simp at zD; omega
                clear b6 zD
                go_wp2_with fail
                refine (find_any (k - 1) sl l sOn _ hm hl4).mono ?_
                cases hO : findM l sOn with
                | none =>
                  rintro e w7 ⟨b7, rfl⟩
                  have HN : Hid (ruleJ j = none) := by show _ = _; rw [HR.out]; unfold ruleL; simp only [hE, hX, hW, hXW, hD, hXD, hO]
                  clear HR
                  go_wp2
                  exact ⟨rfl, rulePost_no HN.out (below_trans B0 b7)⟩
                | some jO =>
                  rintro e w7 ⟨b7, vO, rfl, rO⟩
                  replace B0 := below_trans B0 b7
                  replace hm := hm.below b7
                  replace cz := keep4 cz b7
                  replace sW := sW.below b7
                  replace sD := sD.below b7
                  clear b7
                  go_wp2_with fail
                  refine (on_list (k - 1) vO jO _ rO).mono ?_
                  cases hXO : goodJ (fun _ => true) jO with
                  | none =>
                    rintro e w8 ⟨b8, rfl⟩
                    have HN : Hid (ruleJ j = none) := by show _ = _; rw [HR.out]; unfold ruleL; simp only [hE, hX, hW, hXW, hD, hXD, hO, hXO]
                    clear HR
                    go_wp2
                    exact ⟨rfl, rulePost_no HN.out (below_trans B0 b8)⟩
                  | some lO =>
                    rintro e w8 ⟨b8, uO, rfl, sO, mO, yO⟩
                    have zO := World.block_lt_of_cell? _ ⟨w.heap.size, 0, none⟩ cz.1
                    replace B0 := below_trans B0 b8
                    replace hm := hm.below b8
                    replace cz := keep4 cz b8
                    replace sW := sW.below b8
                    replace sD := sD.below b8
                    have pO : ∀ g, uO.ownBlock = some g → w.heap.size < g := fun g hg => by have := (World.ownsRow.lt sO g hg).1; simp at zO; omega
                    clear b8 zO
                    have HY : Hid (ruleJ j = some ⟨dE, lW, lD, lO⟩) := by show _ = _; rw [HR.out]; unfold ruleL; simp only [hE, hX, hW, hXW, hD, hXD, hO, hXO]
                    clear HR hm
                    obtain ⟨aW, nW, cW, rfl⟩ := srow_slice sW
                    obtain ⟨aD, nD, cD, rfl⟩ := srow_slice sD
                    obtain ⟨aO, nO, cO, rfl⟩ := srow_slice sO
                    obtain ⟨c0, c1, c2, c3, f0, f1, f2, f3⟩ := cz
                    go_wp2
                    refine bodyPost_ret (v := .agg #[.int .i64 x, .slice aW nW cW, .slice aD nD cD, .slice aO nO cO]) ?_ rfl ?_
                    · simp [results, Tryd.results85, go_sem, c0, c1, c2, c3]
                    have hb8 : w.heap.size < w8.heap.size := World.block_lt_of_cell? w8 ⟨w.heap.size, 0, none⟩ c0
                    have KS : Kept (· = w.heap.size) w8 ((((w8.setCell ⟨w.heap.size, 0, none⟩ (.int .i64 x)).setCell ⟨w.heap.size, 1, none⟩ (.slice aW nW cW)).setCell ⟨w.heap.size, 2, none⟩ (.slice aD nD cD)).setCell ⟨w.heap.size, 3, none⟩ (.slice aO nO cO)) :=
                      ((((Kept.refl (· = w.heap.size) w8).setCell _ _ _ (fun _ => rfl)).setCell _ _ _ (fun _ => rfl)).setCell _ _ _ (fun _ => rfl)).setCell _ _ _ (fun _ => rfl)
                    rw [HY.out]
                    refine ⟨B0.trans (KS.below (B := w.heap.size) (by omega) (fun k e => by omega)), (x, .slice aW nW cW, .slice aD nD cD, .slice aO nO cO), rfl, ?_⟩
                    exact ⟨HX.out, srow0 (KS.row sW (fun g hg e => by have := pW g hg; omega)), srow0 (KS.row sD (fun g hg e => by have := pD g hg; omega)), srow0 (KS.row sO (fun g hg e => by have := pO g hg; omega)),
                      fun g hg => Nat.le_of_lt (pW g hg), fun g hg => Nat.le_of_lt (pD g hg), fun g hg => Nat.le_of_lt (pO g hg), mW, mD, mO, yO⟩
end Go.Proofs.YtinnliapfdpfpaaDoor.P
