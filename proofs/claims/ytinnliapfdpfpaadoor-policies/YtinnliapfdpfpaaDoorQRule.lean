/-
  THE DOCUMENT's POLICIES: a rule.
-/
import Derived.Test.YtinnliapfdpfpaaDoorQFour
import Derived.Test.YtinnliapfdpfpaaDoorPBnd
namespace Go.Proofs.YtinnliapfdpfpaaDoor.P
open Go.RowKit
open Go.Proofs.YtinnliapfdpfpaaDoor.C (ret_bool ret_int ret_str)

abbrev sl3 (a : Option Addr) (n c : Nat) : Value := .slice a n c
/-- The two blocks of a rule in the making: what comes out, what is filled. -/
structure RQ (R V : Nat) (x : Bool) (v1 v2 v3 : Value) (w : World) : Prop where
  r0 : w.cell? ⟨R, 0, none⟩ = some (.bool false)
  r1 : w.cell? ⟨R, 1, none⟩ = some (.slice none 0 0)
  r2 : w.cell? ⟨R, 2, none⟩ = some (.slice none 0 0)
  r3 : w.cell? ⟨R, 3, none⟩ = some (.slice none 0 0)
  v0 : w.cell? ⟨V, 0, none⟩ = some (.bool x)
  v1 : w.cell? ⟨V, 1, none⟩ = some v1
  v2 : w.cell? ⟨V, 2, none⟩ = some v2
  v3 : w.cell? ⟨V, 3, none⟩ = some v3
  fr0 : w.frozen? ⟨R, 0, none⟩ = false
  fr1 : w.frozen? ⟨R, 1, none⟩ = false
  fr2 : w.frozen? ⟨R, 2, none⟩ = false
  fr3 : w.frozen? ⟨R, 3, none⟩ = false
  f0 : w.frozen? ⟨V, 0, none⟩ = false
  f1 : w.frozen? ⟨V, 1, none⟩ = false
  f2 : w.frozen? ⟨V, 2, none⟩ = false
  f3 : w.frozen? ⟨V, 3, none⟩ = false
theorem RQ.below {R V : Nat} {x : Bool} {v1 v2 v3 : Value} {w w' : World} (h : RQ R V x v1 v2 v3 w) (k : Below w.heap.size w w') : RQ R V x v1 v2 v3 w' := by
  have hR : R < w.heap.size := World.block_lt_of_cell? w ⟨R, 0, none⟩ h.r0
  have hV : V < w.heap.size := World.block_lt_of_cell? w ⟨V, 0, none⟩ h.v0
  exact ⟨(k.cell (p := ⟨R, 0, none⟩) hR).trans h.r0, (k.cell (p := ⟨R, 1, none⟩) hR).trans h.r1, (k.cell (p := ⟨R, 2, none⟩) hR).trans h.r2, (k.cell (p := ⟨R, 3, none⟩) hR).trans h.r3,
    (k.cell (p := ⟨V, 0, none⟩) hV).trans h.v0, (k.cell (p := ⟨V, 1, none⟩) hV).trans h.v1, (k.cell (p := ⟨V, 2, none⟩) hV).trans h.v2, (k.cell (p := ⟨V, 3, none⟩) hV).trans h.v3,
    (k.frozen (p := ⟨R, 0, none⟩) hR).trans h.fr0, (k.frozen (p := ⟨R, 1, none⟩) hR).trans h.fr1, (k.frozen (p := ⟨R, 2, none⟩) hR).trans h.fr2, (k.frozen (p := ⟨R, 3, none⟩) hR).trans h.fr3,
    (k.frozen (p := ⟨V, 0, none⟩) hV).trans h.f0, (k.frozen (p := ⟨V, 1, none⟩) hV).trans h.f1, (k.frozen (p := ⟨V, 2, none⟩) hV).trans h.f2, (k.frozen (p := ⟨V, 3, none⟩) hV).trans h.f3⟩
def qslices (q : QuadQ) : Prop := ∃ x a1 n1 c1 a2 n2 c2 a3 n3 c3, q = (x, .slice a1 n1 c1, .slice a2 n2 c2, .slice a3 n3 c3)
def qrulePost (w : World) (o : Option RuleP) (e : Ending) (w' : World) : Prop :=
  Below w.heap.size w w' ∧ ∃ q : QuadQ, qslices q ∧ e = .returned (.tuple #[.agg #[.bool q.1, q.2.1, q.2.2.1, q.2.2.2], .bool o.isSome]) ∧ match o with
  | none => True
  | some r => relQ w' (fun g => w.heap.size ≤ g) q r
theorem qrulePost_no {w w' : World} {o : Option RuleP} {x : Bool} {a1 a2 a3 : Option Addr} {n1 c1 n2 c2 n3 c3 : Nat} (h : o = none) (hb : Below w.heap.size w w') : qrulePost w o (.returned (.tuple #[.agg #[.bool x, .slice a1 n1 c1, .slice a2 n2 c2, .slice a3 n3 c3], .bool false])) w' := by
  subst h; exact ⟨hb, (x, .slice a1 n1 c1, .slice a2 n2 c2, .slice a3 n3 c3), ⟨x, a1, n1, c1, a2, n2, c2, a3, n3, c3, rfl⟩, rfl, trivial⟩
/-- The store of what comes out. -/
theorem below_out {w W : World} {R : Nat} (h : Below w.heap.size w W) (hR : w.heap.size ≤ R) (a b c d : Value) : Below w.heap.size w ((((W.setCell ⟨R, 0, none⟩ a).setCell ⟨R, 1, none⟩ b).setCell ⟨R, 2, none⟩ c).setCell ⟨R, 3, none⟩ d) :=
  (((h.setCell (p := ⟨R, 0, none⟩) hR a).setCell (p := ⟨R, 1, none⟩) hR b).setCell (p := ⟨R, 2, none⟩) hR c).setCell (p := ⟨R, 3, none⟩) hR d
abbrev zeroQ : Obj := .cells #[.bool false, .slice none 0 0, .slice none 0 0, .slice none 0 0] 109
theorem RQ.start (w : World) : RQ w.heap.size (w.heap.size + 1) false (.slice none 0 0) (.slice none 0 0) (.slice none 0 0) ((w.alloc zeroQ).alloc zeroQ) := by
  constructor <;> simp [go_sem]
theorem not_four {j : J} {nd : Nd} (h1 : ∀ l, j = .obj l → nd.names = l.map (·.1)) (h4 : ¬ nd.names.length = 4) : ruleJ j = none := by
  cases j with
  | obj l =>
    rw [ruleJ_is]
    have e : ¬ l.length = 4 := by intro e; apply h4; rw [h1 l rfl]; simpa using e
    rw [show objN 4 (.obj l) = none from if_neg e]
  | _ => rfl
/-- The lists of texts, in one form. -/
theorem texts_is (b : Nat) (M : List Nd) (n k : Nat) (j : J) (w : World) (hT : TV b M w) (ht : treeJ k M n j) :
    Calls Tryd.prog 88 #[.pointer (some ⟨b, 0, none⟩), .int .i64 (n : Int)] w fun e w' => Below w.heap.size w w' ∧ ∃ a m c x, e = .returned (.tuple #[.slice a m c, .bool x]) ∧ (textsJ j).isSome = x ∧ ∀ l, textsJ j = some l → srow w' w.heap.size (.slice a m c) l := by
  refine (texts_any b M n k j w hT ht).mono ?_
  rintro e w' ⟨hb, h⟩
  refine ⟨hb, ?_⟩
  cases hj : textsJ j with
  | none => rw [hj] at h; exact ⟨none, 0, 0, false, h, rfl, fun l e => by cases e⟩
  | some l =>
    rw [hj] at h
    obtain ⟨v, h1, h2⟩ := h
    obtain ⟨a, m, c, rfl⟩ := srow_slice h2
    exact ⟨a, m, c, true, h1, rfl, fun l' e => by cases e; exact h2⟩
theorem all_take_s (f : List UInt8 → Bool) (l : List (List UInt8)) (k : Nat) (h : k < l.length) : (l.take (k + 1)).all f = ((l.take k).all f && f l[k]) := by
  rw [take_snoc' h, List.all_append]; simp only [List.all_cons, List.all_nil, Bool.and_true]
theorem all_false_s {f : List UInt8 → Bool} {l : List (List UInt8)} {k : Nat} (h : k < l.length) (hf : f l[k] = false) : l.all f = false := by
  rw [List.all_eq_false]; exact ⟨l[k], List.getElem_mem h, by simp [hf]⟩
theorem who_name {y : List UInt8} (h : nameP y = true) : whoP y = true := by unfold whoP; rw [h, Bool.or_true]
theorem who_star {y : List UInt8} (h : y = sAll) : whoP y = true := by subst h; rfl
theorem who_not {y : List UInt8} (h : nameP y = false) (hs : ¬ y = sAll) : whoP y = false := by
  unfold whoP; rw [h, Bool.or_false]; simpa using hs
abbrev actsB : Obj := .cells #[.string ⟨#[103, 101, 116]⟩, .string ⟨#[112, 117, 116]⟩, .string ⟨#[100, 101, 108, 101, 116, 101]⟩, .string ⟨#[108, 105, 115, 116]⟩, .string ⟨#[112, 111, 108, 105, 99, 121]⟩, .string ⟨#[42]⟩] 9
theorem acts_row (w : World) : srow (w.alloc actsB) 0 (.slice (some ⟨w.heap.size, 0, none⟩) 6 6) acts :=
  ⟨rfl, .inr ⟨w.heap.size, 6, _, rfl, Nat.zero_le _, heap_alloc_new _ _, Nat.le_refl _, by unfold maxLen; omega, rfl, rfl⟩⟩
theorem qrule_yes {w wr : World} {o : Option RuleP} {d : Bool} {v1 v2 v3 : Value} {lw ld lo : List (List UInt8)} {B : Nat} (ho : o = some ⟨d, lw, ld, lo⟩) (hb : Below w.heap.size w wr) (hB : w.heap.size < B) (h1 : srow wr B v1 lw) (h2 : srow wr B v2 ld) (h3 : srow wr B v3 lo)
    (s1 : lw.length ≤ 4) (s2 : ld.length ≤ 4) (s3 : lo.length ≤ 4) (s4 : ∀ y ∈ lo, y.length ≤ 4000) :
    qrulePost w o (.returned (.tuple #[.agg #[.bool d, v1, v2, v3], .bool true])) ((((wr.setCell ⟨w.heap.size, 0, none⟩ (.bool d)).setCell ⟨w.heap.size, 1, none⟩ v1).setCell ⟨w.heap.size, 2, none⟩ v2).setCell ⟨w.heap.size, 3, none⟩ v3) := by
  subst ho
  have KO : Kept (· = w.heap.size) wr ((((wr.setCell ⟨w.heap.size, 0, none⟩ (.bool d)).setCell ⟨w.heap.size, 1, none⟩ v1).setCell ⟨w.heap.size, 2, none⟩ v2).setCell ⟨w.heap.size, 3, none⟩ v3) :=
    (((Kept.of_grown1 (grown_set _ _ _ _)).trans (Kept.of_grown1 (grown_set _ _ _ _)) (fun _ _ e => e)).trans (Kept.of_grown1 (grown_set _ _ _ _)) (fun _ _ e => e)).trans (Kept.of_grown1 (grown_set _ _ _ _)) (fun _ _ e => e)
  have up : ∀ {v : Value} {l : List (List UInt8)}, srow wr B v l → srow ((((wr.setCell ⟨w.heap.size, 0, none⟩ (.bool d)).setCell ⟨w.heap.size, 1, none⟩ v1).setCell ⟨w.heap.size, 2, none⟩ v2).setCell ⟨w.heap.size, 3, none⟩ v3) 0 v l :=
    fun {v} {l} h => srow0 (KO.row h (fun x hx e => by have := (World.ownsRow.lt h x hx).1; omega))
  obtain ⟨b1, m1, d1, rfl⟩ := srow_slice h1
  obtain ⟨b2, m2, d2, rfl⟩ := srow_slice h2
  obtain ⟨b3, m3, d3, rfl⟩ := srow_slice h3
  exact ⟨below_out hb (Nat.le_refl _) _ _ _ _, (d, .slice b1 m1 d1, .slice b2 m2 d2, .slice b3 m3 d3), ⟨d, b1, m1, d1, b2, m2, d2, b3, m3, d3, rfl⟩, rfl, ⟨rfl, up h1, up h2, up h3, (fun g e => by have := (World.ownsRow.lt h1 g e).1; omega), (fun g e => by have := (World.ownsRow.lt h2 g e).1; omega), (fun g e => by have := (World.ownsRow.lt h3 g e).1; omega), s1, s2, s3, s4⟩⟩
theorem eq_one {a : Nat} (h : (a == 1) = true) : a = 1 := eq_of_beq h
theorem ne_one {a : Nat} (h : (a == 1) = false) : ¬ a = 1 := by simpa using h
theorem rule_none {l : List (List UInt8 × J)} (h4 : l.length = 4) (h : ¬ (cntM l sEffect = 1 ∧ cntM l sWho = 1 ∧ cntM l sDo = 1 ∧ cntM l sOn = 1)) : ruleJ (.obj l) = none := by
  have := no_rule h4 h
  rw [ruleJ_is, show objN 4 (.obj l) = some l from if_pos h4]
  exact this
set_option maxHeartbeats 8000000 in
set_option maxRecDepth 20000 in
theorem qrule_four (b : Nat) (M : List Nd) (n k m : Nat) (l : List (List UInt8 × J)) (w : World) (hT : TV b M w) (ht : treeJ k M n (.obj l)) (h4 : l.length = 4) (hbd : bnd (m + 3) (.obj l)) :
    Calls Tryd.prog 60 #[.pointer (some ⟨b, 0, none⟩), .int .i64 (n : Int)] w (qrulePost w (ruleJ (.obj l))) := by
  obtain ⟨nd, hn, hkd, -, -, hob, -⟩ := tree_kind ht
  obtain ⟨hnm, hall⟩ := hob l rfl
  have hkl := all2_len hall
  have b0 : Below w.heap.size w ((w.alloc zeroQ).alloc zeroQ) := ((Below.refl _ _).alloc (Nat.le_refl _) _).alloc (by simp) _
  have Q0 := RQ.start w
  have T0 := hT.below b0
  obtain ⟨g, cap, a1, c1, a2, c2, V⟩ := T0.node hn
  have lt := V.lt; have cb := V.cb; have d2 := V.d2
  have h4n : nd.names.length = 4 := by rw [hnm]; simpa using h4
  obtain ⟨ie, HIE⟩ : ∃ i, Hid ((memAt nd.names nd.kids sEffect nd.names.length).1 = i) := ⟨_, rfl⟩
  obtain ⟨iw, HIW⟩ : ∃ i, Hid ((memAt nd.names nd.kids sWho nd.names.length).1 = i) := ⟨_, rfl⟩
  obtain ⟨id, HID⟩ : ∃ i, Hid ((memAt nd.names nd.kids sDo nd.names.length).1 = i) := ⟨_, rfl⟩
  obtain ⟨io, HIO⟩ : ∃ i, Hid ((memAt nd.names nd.kids sOn nd.names.length).1 = i) := ⟨_, rfl⟩
  obtain ⟨x1, X1⟩ : ∃ x, Hid ((cntM l sEffect == 1) = x) := ⟨_, rfl⟩
  obtain ⟨x2, X2⟩ : ∃ x, Hid ((cntM l sWho == 1) = x) := ⟨_, rfl⟩
  obtain ⟨x3, X3⟩ : ∃ x, Hid ((cntM l sDo == 1) = x) := ⟨_, rfl⟩
  obtain ⟨x4, X4⟩ : ∃ x, Hid ((cntM l sOn == 1) = x) := ⟨_, rfl⟩
  have MM : Hid (∀ W, Below w.heap.size w W → ∀ nm x i, (cntM l nm == 1) = x → (memAt nd.names nd.kids nm nd.names.length).1 = i →
      Calls Tryd.prog 59 #[.pointer (some ⟨b, 0, none⟩), .int .i64 (n : Int), str nm] W fun e w' => e = .returned (.tuple #[.int .i64 (i : Int), .bool x]) ∧ Below W.heap.size W w') :=
    fun W hW nm x i hx hi => mem_is b M n nd l nm x i W (hT.below hW) hn hkd hnm hkl h4 hx hi
  have HALL : Hid (all2 (fun i (j : List UInt8 × J) => treeJ (k - 1) M i j.2) nd.kids l) := hall
  have HNM : Hid (nd.names = l.map (·.1)) := hnm
  have HT : Hid (TV b M w) := hT
  have HQ : Hid (RQ w.heap.size (w.heap.size + 1) false (.slice none 0 0) (.slice none 0 0) (.slice none 0 0) ((w.alloc zeroQ).alloc zeroQ)) := Q0
  have p0 : ((nd.names.length : Int) != 4) = false := by rw [h4n]; rfl
  clear hall hnm hT Q0 T0 V hob ht hkd hn
  go_enter Tryd.func60, Tryd.ntmps60
  go_wp2_with fail
  refine (MM.out _ b0 sEffect _ _ X1.out HIE.out).mono ?_
  rintro e w1 ⟨rfl, b1⟩
  have B1 := below_trans b0 b1
  clear cb d2
  go_wp2_with fail
  refine (MM.out _ B1 sWho _ _ X2.out HIW.out).mono ?_
  rintro e w2 ⟨rfl, b2⟩
  have B2 := below_trans B1 b2
  go_wp2_with fail
  refine (MM.out _ B2 sDo _ _ X3.out HID.out).mono ?_
  rintro e w3 ⟨rfl, b3⟩
  have B3 := below_trans B2 b3
  go_wp2_with fail
  refine (MM.out _ B3 sOn _ _ X4.out HIO.out).mono ?_
  rintro e w4 ⟨rfl, b4⟩
  have B4 := below_trans B3 b4
  have Q4 := HQ.out.below (below_trans (below_trans (below_trans b1 b2) b3) b4)
  clear MM b0 b1 b2 b3 b4 B1 B2 B3 HQ
  have e0 := Q4.r0; have e1 := Q4.r1; have e2 := Q4.r2; have e3 := Q4.r3
  have i0 := Q4.v0; have i1 := Q4.v1; have i2 := Q4.v2; have i3 := Q4.v3
  have j0 := Q4.fr0; have j1 := Q4.fr1; have j2 := Q4.fr2; have j3 := Q4.fr3
  have f0 := Q4.f0; have f1 := Q4.f1; have f2 := Q4.f2; have f3 := Q4.f3
  clear Q4
  have NOT : Hid (¬ (cntM l sEffect = 1 ∧ cntM l sWho = 1 ∧ cntM l sDo = 1 ∧ cntM l sOn = 1) → ruleJ (.obj l) = none) := rule_none h4
  cases x1 with
  | false =>
    have HN : Hid (ruleJ (.obj l) = none) := NOT.out (fun h => ne_one X1.out h.1)
    go_wp2
    refine bodyPost_ret (v := .tuple #[.agg #[.bool false, .slice none 0 0, .slice none 0 0, .slice none 0 0], .bool false]) ?_ rfl ?_
    · simp [results, Tryd.results60, go_sem, e0, e1, e2, e3]
    · exact qrulePost_no HN.out (below_out B4 (Nat.le_refl _) _ _ _ _)
  | true =>
    cases x2 with
    | false =>
      have HN : Hid (ruleJ (.obj l) = none) := NOT.out (fun h => ne_one X2.out h.2.1)
      go_wp2
      refine bodyPost_ret (v := .tuple #[.agg #[.bool false, .slice none 0 0, .slice none 0 0, .slice none 0 0], .bool false]) ?_ rfl ?_
      · simp [results, Tryd.results60, go_sem, e0, e1, e2, e3]
      · exact qrulePost_no HN.out (below_out B4 (Nat.le_refl _) _ _ _ _)
    | true =>
      cases x3 with
      | false =>
        have HN : Hid (ruleJ (.obj l) = none) := NOT.out (fun h => ne_one X3.out h.2.2.1)
        go_wp2
        refine bodyPost_ret (v := .tuple #[.agg #[.bool false, .slice none 0 0, .slice none 0 0, .slice none 0 0], .bool false]) ?_ rfl ?_
        · simp [results, Tryd.results60, go_sem, e0, e1, e2, e3]
        · exact qrulePost_no HN.out (below_out B4 (Nat.le_refl _) _ _ _ _)
      | true =>
        cases x4 with
        | false =>
          have HN : Hid (ruleJ (.obj l) = none) := NOT.out (fun h => ne_one X4.out h.2.2.2)
          go_wp2
          refine bodyPost_ret (v := .tuple #[.agg #[.bool false, .slice none 0 0, .slice none 0 0, .slice none 0 0], .bool false]) ?_ rfl ?_
          · simp [results, Tryd.results60, go_sem, e0, e1, e2, e3]
          · exact qrulePost_no HN.out (below_out B4 (Nat.le_refl _) _ _ _ _)
        | true =>
          obtain ⟨je, fe, te⟩ := once_find HALL.out sEffect (eq_one X1.out)
          obtain ⟨jw, fw, tw⟩ := once_find HALL.out sWho (eq_one X2.out)
          obtain ⟨jd, fd, td⟩ := once_find HALL.out sDo (eq_one X3.out)
          obtain ⟨jo, fo, tn⟩ := once_find HALL.out sOn (eq_one X4.out)
          rw [← HNM.out, HIE.out] at te
          rw [← HNM.out, HIW.out] at tw
          rw [← HNM.out, HID.out] at td
          rw [← HNM.out, HIO.out] at tn
          have HF : Hid (Four l je jw jd jo) := ⟨h4, fe, fw, fd, fo⟩
          have TW : Hid (treeJ (k - 1) M iw jw) := tw
          have TD : Hid (treeJ (k - 1) M id jd) := td
          have TO : Hid (treeJ (k - 1) M io jo) := tn
          have BW : Hid (bnd (m + 2) jw) := find_bnd hbd fw
          have BD : Hid (bnd (m + 2) jd) := find_bnd hbd fd
          have BO : Hid (bnd (m + 2) jo) := find_bnd hbd fo
          obtain ⟨nde, hne, hkde, -, hste, -, -⟩ := tree_kind te
          obtain ⟨ge, cape, p1, q1, p2, q2, VE⟩ := (HT.out.below B4).node hne
          have lte := VE.lt; have cbe := VE.cb; have v0 := VE.d0; have v1 := VE.d1
          clear VE hne te tw td tn fe fw fd fo X1 X2 X3 X4 HIE HIW HID HIO NOT HALL HNM hkl hbd p0 h4n
          by_cases h34 : nde.kind = 34
          · obtain ⟨s, rfl⟩ := kind_str (hkde.symm.trans h34)
            have htx := hste s rfl
            rw [htx] at v1
            have r1 : ((nde.kind : Int) != 34) = false := by simp; omega
            clear hste htx h34 hkde
            by_cases hD : s = sDeny ∨ s = sAllow
            · obtain ⟨d, HE, hc⟩ : ∃ d, Hid (effJ (.str s) = some d) ∧ (d = true ∧ s = sDeny ∨ d = false ∧ s = sAllow) := by
                rcases hD with h | h
                · exact ⟨true, eff_deny (by rw [h]), Or.inl ⟨rfl, h⟩⟩
                · exact ⟨false, eff_allow (by rw [h]), Or.inr ⟨rfl, h⟩⟩
              clear hD
              rcases hc with ⟨rfl, rfl⟩ | ⟨rfl, rfl⟩
              · unfold sDeny at v1
                go_wp2_with fail
                have B5 : Below w.heap.size w (w4.setCell ⟨w.heap.size + 1, 0, none⟩ (.bool true)) := B4.setCell (p := ⟨w.heap.size + 1, 0, none⟩) (Nat.le_succ _) _
                have Q5 : RQ w.heap.size (w.heap.size + 1) true (.slice none 0 0) (.slice none 0 0) (.slice none 0 0) (w4.setCell ⟨w.heap.size + 1, 0, none⟩ (.bool true)) := by
                  constructor <;> simp [go_sem, e0, e1, e2, e3, i0, i1, i2, i3, j0, j1, j2, j3, f0, f1, f2, f3]
                clear e0 e1 e2 e3 i0 i1 i2 i3 j0 j1 j2 j3 f0 f1 f2 f3 cbe v0 v1 lte r1 B4
                generalize (w4.setCell ⟨w.heap.size + 1, 0, none⟩ (.bool true)) = w5 at *
                refine (texts_is b M iw (k - 1) jw _ (HT.out.below B5) TW.out).mono ?_
                rintro e w6 ⟨b6, aw, mw, cw, xw, rfl, HXW, hsw⟩
                have B6 := below_trans B5 b6
                go_wp2_with fail
                refine (texts_is b M id (k - 1) jd _ (HT.out.below B6) TD.out).mono ?_
                rintro e w7 ⟨b7, ad, md, cd, xd, rfl, HXD, hsd⟩
                have B7 := below_trans B6 b7
                go_wp2_with fail
                refine (texts_is b M io (k - 1) jo _ (HT.out.below B7) TO.out).mono ?_
                rintro e w8 ⟨b8, ao, mo, co, xo, rfl, HXO, hso⟩
                have B8 := below_trans B7 b8
                have Q8 := Q5.below (below_trans (below_trans b6 b7) b8)
                have b68 := below_trans b7 b8
                have z6 := b6.size; have z7 := b7.size; have z8 := b8.size
                have hV5 : w.heap.size + 1 < w5.heap.size := World.block_lt_of_cell? w5 ⟨w.heap.size + 1, 0, none⟩ Q5.v0
                have KW : ∀ a b c : Value, Kept (· = w.heap.size + 1) w8 (((w8.setCell ⟨w.heap.size + 1, 1, none⟩ a).setCell ⟨w.heap.size + 1, 2, none⟩ b).setCell ⟨w.heap.size + 1, 3, none⟩ c) := fun a b c =>
                  ((Kept.of_grown1 (grown_set _ _ _ _)).trans (Kept.of_grown1 (grown_set _ _ _ _)) (fun _ _ e => e)).trans (Kept.of_grown1 (grown_set _ _ _ _)) (fun _ _ e => e)
                have SW : Hid (∀ lw, textsJ jw = some lw → srow (((w8.setCell ⟨w.heap.size + 1, 1, none⟩ (.slice aw mw cw)).setCell ⟨w.heap.size + 1, 2, none⟩ (.slice ad md cd)).setCell ⟨w.heap.size + 1, 3, none⟩ (.slice ao mo co)) w5.heap.size (.slice aw mw cw) lw) := fun lw h =>
                  (KW _ _ _).row (srow.below (hsw lw h) b68) (fun x hx e => by have := (World.ownsRow.lt (hsw lw h) x hx).1; omega)
                have SD : Hid (∀ lw, textsJ jd = some lw → srow (((w8.setCell ⟨w.heap.size + 1, 1, none⟩ (.slice aw mw cw)).setCell ⟨w.heap.size + 1, 2, none⟩ (.slice ad md cd)).setCell ⟨w.heap.size + 1, 3, none⟩ (.slice ao mo co)) w6.heap.size (.slice ad md cd) lw) := fun lw h =>
                  (KW _ _ _).row (srow.below (hsd lw h) b8) (fun x hx e => by have := (World.ownsRow.lt (hsd lw h) x hx).1; omega)
                have SO : Hid (∀ lw, textsJ jo = some lw → srow (((w8.setCell ⟨w.heap.size + 1, 1, none⟩ (.slice aw mw cw)).setCell ⟨w.heap.size + 1, 2, none⟩ (.slice ad md cd)).setCell ⟨w.heap.size + 1, 3, none⟩ (.slice ao mo co)) w7.heap.size (.slice ao mo co) lw) := fun lw h =>
                  (KW _ _ _).row (hso lw h) (fun x hx e => by have := (World.ownsRow.lt (hso lw h) x hx).1; omega)
                have B9 : Below w.heap.size w (((w8.setCell ⟨w.heap.size + 1, 1, none⟩ (.slice aw mw cw)).setCell ⟨w.heap.size + 1, 2, none⟩ (.slice ad md cd)).setCell ⟨w.heap.size + 1, 3, none⟩ (.slice ao mo co)) :=
                  ((B8.setCell (p := ⟨w.heap.size + 1, 1, none⟩) (Nat.le_succ _) _).setCell (p := ⟨w.heap.size + 1, 2, none⟩) (Nat.le_succ _) _).setCell (p := ⟨w.heap.size + 1, 3, none⟩) (Nat.le_succ _) _
                have Q9 : RQ w.heap.size (w.heap.size + 1) true (.slice aw mw cw) (.slice ad md cd) (.slice ao mo co) (((w8.setCell ⟨w.heap.size + 1, 1, none⟩ (.slice aw mw cw)).setCell ⟨w.heap.size + 1, 2, none⟩ (.slice ad md cd)).setCell ⟨w.heap.size + 1, 3, none⟩ (.slice ao mo co)) := by
                  have e0 := Q8.r0; have e1 := Q8.r1; have e2 := Q8.r2; have e3 := Q8.r3
                  have i0 := Q8.v0; have i1 := Q8.v1; have i2 := Q8.v2; have i3 := Q8.v3
                  have j0 := Q8.fr0; have j1 := Q8.fr1; have j2 := Q8.fr2; have j3 := Q8.fr3
                  have f0 := Q8.f0; have f1 := Q8.f1; have f2 := Q8.f2; have f3 := Q8.f3
                  constructor <;> simp [go_sem, e0, e1, e2, e3, i0, i1, i2, i3, j0, j1, j2, j3, f0, f1, f2, f3]
                have e0 := Q8.r0; have e1 := Q8.r1; have e2 := Q8.r2; have e3 := Q8.r3
                have i0 := Q8.v0; have i1 := Q8.v1; have i2 := Q8.v2; have i3 := Q8.v3
                have j0 := Q8.fr0; have j1 := Q8.fr1; have j2 := Q8.fr2; have j3 := Q8.fr3
                have f0 := Q8.f0; have f1 := Q8.f1; have f2 := Q8.f2; have f3 := Q8.f3
                have H5 : Hid (w.heap.size + 1 < w5.heap.size ∧ w5.heap.size ≤ w6.heap.size ∧ w6.heap.size ≤ w7.heap.size) := ⟨by omega, by omega, by omega⟩
                clear B5 B6 B7 B8 b6 b7 b8 b68 Q5 Q8 KW hsw hsd hso z6 z7 z8 hV5
                cases hw : textsJ jw with
                | none =>
                  have HN : Hid (ruleJ (.obj l) = none) := HF.out.noW (good_none hw)
                  obtain rfl : xw = false := by rw [← HXW, hw]; rfl
                  clear SW SD SO Q9 HXW hw
                  go_wp2
                  refine bodyPost_ret (v := .tuple #[.agg #[.bool true, .slice aw mw cw, .slice ad md cd, .slice ao mo co], .bool false]) ?_ rfl ?_
                  · simp [results, Tryd.results60, go_sem, e0, e1, e2, e3]
                  · exact qrulePost_no HN.out (below_out B9 (Nat.le_refl _) _ _ _ _)
                | some lw =>
                  obtain rfl : xw = true := by rw [← HXW, hw]; rfl
                  cases hd : textsJ jd with
                  | none =>
                    have HN : Hid (ruleJ (.obj l) = none) := HF.out.noD (good_none hd)
                    obtain rfl : xd = false := by rw [← HXD, hd]; rfl
                    clear SW SD SO Q9 HXW HXD hw hd
                    go_wp2
                    refine bodyPost_ret (v := .tuple #[.agg #[.bool true, .slice aw mw cw, .slice ad md cd, .slice ao mo co], .bool false]) ?_ rfl ?_
                    · simp [results, Tryd.results60, go_sem, e0, e1, e2, e3]
                    · exact qrulePost_no HN.out (below_out B9 (Nat.le_refl _) _ _ _ _)
                  | some ld =>
                    obtain rfl : xd = true := by rw [← HXD, hd]; rfl
                    cases ho : textsJ jo with
                    | none =>
                      have HN : Hid (ruleJ (.obj l) = none) := HF.out.noO (good_none ho)
                      obtain rfl : xo = false := by rw [← HXO, ho]; rfl
                      clear SW SD SO Q9 HXW HXD HXO hw hd ho
                      go_wp2
                      refine bodyPost_ret (v := .tuple #[.agg #[.bool true, .slice aw mw cw, .slice ad md cd, .slice ao mo co], .bool false]) ?_ rfl ?_
                      · simp [results, Tryd.results60, go_sem, e0, e1, e2, e3]
                      · exact qrulePost_no HN.out (below_out B9 (Nat.le_refl _) _ _ _ _)
                    | some lo =>
                      obtain rfl : xo = true := by rw [← HXO, ho]; rfl
                      have rw9 := SW.out lw hw; have rd9 := SD.out ld hd; have ro9 := SO.out lo ho
                      have HW : Hid (textsJ jw = some lw) := hw
                      have HD : Hid (textsJ jd = some ld) := hd
                      have HO : Hid (textsJ jo = some lo) := ho
                      clear SW SD SO HXW HXD HXO hw hd ho
                      go_wp2
                      clear e0 e1 e2 e3 i0 i1 i2 i3 j0 j1 j2 j3 f0 f1 f2 f3
                      generalize (((w8.setCell ⟨w.heap.size + 1, 1, none⟩ (.slice aw mw cw)).setCell ⟨w.heap.size + 1, 2, none⟩ (.slice ad md cd)).setCell ⟨w.heap.size + 1, 3, none⟩ (.slice ao mo co)) = w9 at *
                      have e0 := Q9.r0; have e1 := Q9.r1; have e2 := Q9.r2; have e3 := Q9.r3
                      have i0 := Q9.v0; have i1 := Q9.v1; have i2 := Q9.v2; have i3 := Q9.v3
                      have j0 := Q9.fr0; have j1 := Q9.fr1; have j2 := Q9.fr2; have j3 := Q9.fr3
                      have lw4 := texts_len HW.out
                      have ld4 := texts_len HD.out
                      have lo4 := texts_len HO.out
                      have SZW : Hid (∀ y ∈ lw, y.length ≤ 4000) := texts_bnd BW.out HW.out
                      have SZD : Hid (∀ y ∈ ld, y.length ≤ 4000) := texts_bnd BD.out HD.out
                      have SZO : Hid (∀ y ∈ lo, y.length ≤ 4000) := texts_bnd BO.out HO.out
                      obtain ⟨aw', cw', ew, _, hcw⟩ := row_view rw9
                      simp only [Value.slice.injEq] at ew
                      obtain ⟨rfl, rfl, rfl⟩ := ew
                      obtain ⟨ad', cd', ed, _, hcd⟩ := row_view rd9
                      simp only [Value.slice.injEq] at ed
                      obtain ⟨rfl, rfl, rfl⟩ := ed
                      have HCW : Hid (_) := hcw
                      have HCD : Hid (_) := hcd
                      have RW : Hid (_) := rw9
                      have RD : Hid (_) := rd9
                      have RO : Hid (_) := ro9
                      have HQ9 : Hid (_) := Q9
                      clear hcw hcd rw9 rd9 ro9 BW BD BO TW TD TO HT Q9
                      go_loop [21] (fun i => ∃ q : Nat, q ≤ lw.length ∧ i = .int .i64 q ∧ (lw.take q).all whoP = true) (fun i => lw.length - (intOf i).toNat)
                      case atStart => exact ⟨0, Nat.zero_le _, rfl, rfl⟩
                      case round =>
                        obtain ⟨q, hq, rfl, hno⟩ := hrel
                        have HA : Hid ((lw.take q).all whoP = true) := hno
                        clear hno
                        by_cases hlt : q < lw.length
                        · obtain ⟨gw, rfl, cq, _⟩ := HCW.out q (str lw[q]) (by rw [List.getElem?_map, List.getElem?_eq_getElem hlt]; rfl)
                          have NM : Hid (_) := qisName_any lw[q] w9 (by have := SZW.out _ (List.getElem_mem hlt); omega)
                          cases hn : nameP lw[q] with
                          | true =>
                            have HY : Hid ((lw.take (q + 1)).all whoP = true) := by show _ = _; rw [all_take_s _ _ _ hlt, HA.out, who_name hn]; rfl
                            clear HA
                            go_wp2_with (go_at_call 89; refine Calls.mono NM.out ?_; rw [hn]; rintro e w' ⟨rfl, rfl⟩)
                            go_round
                            case rel => exact ⟨q + 1, by omega, by go_num, HY.out⟩
                            case measure => simp [intOf]; omega
                          | false =>
                            by_cases hA : lw[q] = sAll
                            · have HY : Hid ((lw.take (q + 1)).all whoP = true) := by show _ = _; rw [all_take_s _ _ _ hlt, HA.out, who_star hA]; rfl
                              have t1 : (lw[q] == [42]) = true := by rw [hA]; rfl
                              clear HA hA
                              go_wp2_with (go_at_call 89; refine Calls.mono NM.out ?_; rw [hn]; rintro e w' ⟨rfl, rfl⟩)
                              go_round
                              case rel => exact ⟨q + 1, by omega, by go_num, HY.out⟩
                              case measure => simp [intOf]; omega
                            · have HN : Hid (ruleJ (.obj l) = none) := HF.out.noW (good_bad HW.out (all_false_s hlt (who_not hn hA)))
                              have t1 : (lw[q] == [42]) = false := by simpa [sAll] using hA
                              clear HA hA
                              go_wp2_with (go_at_call 89; refine Calls.mono NM.out ?_; rw [hn]; rintro e w' ⟨rfl, rfl⟩)
                              refine bodyPost_ret (v := .tuple #[.agg #[.bool true, .slice (some ⟨gw, 0, none⟩) lw.length cw, .slice ad ld.length cd, .slice ao mo co], .bool false]) ?_ rfl ?_
                              · simp [results, Tryd.results60, go_sem, e0, e1, e2, e3]
                              · exact qrulePost_no HN.out (below_out B9 (Nat.le_refl _) _ _ _ _)
                        · obtain rfl : q = lw.length := by omega
                          have HGW : Hid (goodJ whoP jw = some lw) := good_some HW.out (by have := HA.out; rwa [List.take_length] at this)
                          clear HA HW SZW HCW
                          go_wp2
                          clear e0 e1 e2 e3 i0 i1 i2 i3 j0 j1 j2 j3
                          go_loopw [23] (fun i wr => ∃ q : Nat, q ≤ ld.length ∧ i = .int .i64 q ∧ (ld.take q).all actP = true ∧ Below w9.heap.size w9 wr) (fun i _ => ld.length - (intOf i).toNat)
                          case atStart => exact ⟨0, Nat.zero_le _, rfl, rfl, Below.refl _ _⟩
                          case round =>
                            obtain ⟨q, hq, rfl, hno, hb⟩ := hrel
                            have HA : Hid ((ld.take q).all actP = true) := hno
                            clear hno
                            have QR := HQ9.out.below hb
                            have e0 := QR.r0; have e1 := QR.r1; have e2 := QR.r2; have e3 := QR.r3
                            have i0 := QR.v0; have i1 := QR.v1; have i2 := QR.v2; have i3 := QR.v3
                            have j0 := QR.fr0; have j1 := QR.fr1; have j2 := QR.fr2; have j3 := QR.fr3
                            have BR := below_trans B9 hb
                            by_cases hlt : q < ld.length
                            · obtain ⟨gd, rfl, cq, hgd⟩ := HCD.out q (str ld[q]) (by rw [List.getElem?_map, List.getElem?_eq_getElem hlt]; rfl)
                              replace cq := (hb.cell (p := ⟨gd, q, none⟩) hgd).trans cq
                              have hsz := hb.size
                              have bA : Below wr.heap.size wr (wr.alloc actsB) := (Below.refl _ _).alloc (Nat.le_refl _) _
                              have iA := (bA.cell (p := ⟨w.heap.size + 1, 2, none⟩) (World.block_lt_of_cell? wr ⟨w.heap.size + 1, 2, none⟩ i2)).trans i2
                              have cA := (bA.cell (p := ⟨gd, q, none⟩) (World.block_lt_of_cell? wr ⟨gd, q, none⟩ cq)).trans cq
                              have hVr : w.heap.size + 1 < wr.heap.size := World.block_lt_of_cell? wr ⟨w.heap.size + 1, 2, none⟩ i2
                              have hGr : gd < wr.heap.size := World.block_lt_of_cell? wr ⟨gd, q, none⟩ cq
                              have NA : Hid (_) := named_is (.slice (some ⟨wr.heap.size, 0, none⟩) 6 6) acts ld[q]
                              cases ha : actP ld[q] with
                              | true =>
                                have HY : Hid ((ld.take (q + 1)).all actP = true) := by show _ = _; rw [all_take_s _ _ _ hlt, HA.out, ha]; rfl
                                clear HA
                                go_wp2_with (go_at_call 90; refine (NA.out true (wr.alloc actsB) (acts_row wr) (by decide) ha).mono ?_; rintro e w' ⟨rfl, rfl⟩)
                                go_roundw
                                case rel => exact ⟨q + 1, by omega, by go_num, HY.out, hb.alloc hsz _⟩
                                case measure => simp [intOf]; omega
                              | false =>
                                have HN : Hid (ruleJ (.obj l) = none) := HF.out.noD (good_bad HD.out (all_false_s hlt ha))
                                clear HA
                                have QA := QR.below bA
                                have E0 := QA.r0; have E1 := QA.r1; have E2 := QA.r2; have E3 := QA.r3
                                have I0 := QA.v0; have I1 := QA.v1; have I3 := QA.v3
                                have J0 := QA.fr0; have J1 := QA.fr1; have J2 := QA.fr2; have J3 := QA.fr3
                                clear QA QR bA e0 e1 e2 e3 i0 i1 i3 j0 j1 j2 j3
                                go_wp2_with (go_at_call 90; refine (NA.out false (wr.alloc actsB) (acts_row wr) (by decide) ha).mono ?_; rintro e w' ⟨rfl, rfl⟩)
                                refine bodyPost_ret (v := .tuple #[.agg #[.bool true, .slice aw lw.length cw, .slice (some ⟨gd, 0, none⟩) ld.length cd, .slice ao mo co], .bool false]) ?_ rfl ?_
                                · simp [results, Tryd.results60, go_sem, E0, E1, E2, E3]
                                · exact qrulePost_no HN.out (below_out (BR.alloc BR.size _) (Nat.le_refl _) _ _ _ _)
                            · obtain rfl : q = ld.length := by omega
                              have HGD : Hid (goodJ actP jd = some ld) := good_some HD.out (by have := HA.out; rwa [List.take_length] at this)
                              have HY : Hid (ruleJ (.obj l) = some ⟨true, lw, ld, lo⟩) := HF.out.yes HE.out HGW.out HGD.out (good_some HO.out (by simp))
                              have h5 := H5.out
                              have x1 := srow.below RW.out hb
                              have x2 := srow_base (srow.below RD.out hb) h5.2.1
                              have x3 := srow_base (srow.below RO.out hb) (show w5.heap.size ≤ w7.heap.size by omega)
                              clear HA
                              go_wp2
                              refine bodyPost_ret (v := .tuple #[.agg #[.bool true, .slice aw lw.length cw, .slice ad ld.length cd, .slice ao mo co], .bool true]) ?_ rfl ?_
                              · simp [results, Tryd.results60, go_sem, e0, e1, e2, e3]
                              · exact qrule_yes HY.out BR (by omega) x1 x2 x3 lw4 ld4 lo4 SZO.out
              · unfold sAllow at v1
                go_wp2_with fail
                have B5 : Below w.heap.size w (w4.setCell ⟨w.heap.size + 1, 0, none⟩ (.bool false)) := B4.setCell (p := ⟨w.heap.size + 1, 0, none⟩) (Nat.le_succ _) _
                have Q5 : RQ w.heap.size (w.heap.size + 1) false (.slice none 0 0) (.slice none 0 0) (.slice none 0 0) (w4.setCell ⟨w.heap.size + 1, 0, none⟩ (.bool false)) := by
                  constructor <;> simp [go_sem, e0, e1, e2, e3, i0, i1, i2, i3, j0, j1, j2, j3, f0, f1, f2, f3]
                clear e0 e1 e2 e3 i0 i1 i2 i3 j0 j1 j2 j3 f0 f1 f2 f3 cbe v0 v1 lte r1 B4
                generalize (w4.setCell ⟨w.heap.size + 1, 0, none⟩ (.bool false)) = w5 at *
                refine (texts_is b M iw (k - 1) jw _ (HT.out.below B5) TW.out).mono ?_
                rintro e w6 ⟨b6, aw, mw, cw, xw, rfl, HXW, hsw⟩
                have B6 := below_trans B5 b6
                go_wp2_with fail
                refine (texts_is b M id (k - 1) jd _ (HT.out.below B6) TD.out).mono ?_
                rintro e w7 ⟨b7, ad, md, cd, xd, rfl, HXD, hsd⟩
                have B7 := below_trans B6 b7
                go_wp2_with fail
                refine (texts_is b M io (k - 1) jo _ (HT.out.below B7) TO.out).mono ?_
                rintro e w8 ⟨b8, ao, mo, co, xo, rfl, HXO, hso⟩
                have B8 := below_trans B7 b8
                have Q8 := Q5.below (below_trans (below_trans b6 b7) b8)
                have b68 := below_trans b7 b8
                have z6 := b6.size; have z7 := b7.size; have z8 := b8.size
                have hV5 : w.heap.size + 1 < w5.heap.size := World.block_lt_of_cell? w5 ⟨w.heap.size + 1, 0, none⟩ Q5.v0
                have KW : ∀ a b c : Value, Kept (· = w.heap.size + 1) w8 (((w8.setCell ⟨w.heap.size + 1, 1, none⟩ a).setCell ⟨w.heap.size + 1, 2, none⟩ b).setCell ⟨w.heap.size + 1, 3, none⟩ c) := fun a b c =>
                  ((Kept.of_grown1 (grown_set _ _ _ _)).trans (Kept.of_grown1 (grown_set _ _ _ _)) (fun _ _ e => e)).trans (Kept.of_grown1 (grown_set _ _ _ _)) (fun _ _ e => e)
                have SW : Hid (∀ lw, textsJ jw = some lw → srow (((w8.setCell ⟨w.heap.size + 1, 1, none⟩ (.slice aw mw cw)).setCell ⟨w.heap.size + 1, 2, none⟩ (.slice ad md cd)).setCell ⟨w.heap.size + 1, 3, none⟩ (.slice ao mo co)) w5.heap.size (.slice aw mw cw) lw) := fun lw h =>
                  (KW _ _ _).row (srow.below (hsw lw h) b68) (fun x hx e => by have := (World.ownsRow.lt (hsw lw h) x hx).1; omega)
                have SD : Hid (∀ lw, textsJ jd = some lw → srow (((w8.setCell ⟨w.heap.size + 1, 1, none⟩ (.slice aw mw cw)).setCell ⟨w.heap.size + 1, 2, none⟩ (.slice ad md cd)).setCell ⟨w.heap.size + 1, 3, none⟩ (.slice ao mo co)) w6.heap.size (.slice ad md cd) lw) := fun lw h =>
                  (KW _ _ _).row (srow.below (hsd lw h) b8) (fun x hx e => by have := (World.ownsRow.lt (hsd lw h) x hx).1; omega)
                have SO : Hid (∀ lw, textsJ jo = some lw → srow (((w8.setCell ⟨w.heap.size + 1, 1, none⟩ (.slice aw mw cw)).setCell ⟨w.heap.size + 1, 2, none⟩ (.slice ad md cd)).setCell ⟨w.heap.size + 1, 3, none⟩ (.slice ao mo co)) w7.heap.size (.slice ao mo co) lw) := fun lw h =>
                  (KW _ _ _).row (hso lw h) (fun x hx e => by have := (World.ownsRow.lt (hso lw h) x hx).1; omega)
                have B9 : Below w.heap.size w (((w8.setCell ⟨w.heap.size + 1, 1, none⟩ (.slice aw mw cw)).setCell ⟨w.heap.size + 1, 2, none⟩ (.slice ad md cd)).setCell ⟨w.heap.size + 1, 3, none⟩ (.slice ao mo co)) :=
                  ((B8.setCell (p := ⟨w.heap.size + 1, 1, none⟩) (Nat.le_succ _) _).setCell (p := ⟨w.heap.size + 1, 2, none⟩) (Nat.le_succ _) _).setCell (p := ⟨w.heap.size + 1, 3, none⟩) (Nat.le_succ _) _
                have Q9 : RQ w.heap.size (w.heap.size + 1) false (.slice aw mw cw) (.slice ad md cd) (.slice ao mo co) (((w8.setCell ⟨w.heap.size + 1, 1, none⟩ (.slice aw mw cw)).setCell ⟨w.heap.size + 1, 2, none⟩ (.slice ad md cd)).setCell ⟨w.heap.size + 1, 3, none⟩ (.slice ao mo co)) := by
                  have e0 := Q8.r0; have e1 := Q8.r1; have e2 := Q8.r2; have e3 := Q8.r3
                  have i0 := Q8.v0; have i1 := Q8.v1; have i2 := Q8.v2; have i3 := Q8.v3
                  have j0 := Q8.fr0; have j1 := Q8.fr1; have j2 := Q8.fr2; have j3 := Q8.fr3
                  have f0 := Q8.f0; have f1 := Q8.f1; have f2 := Q8.f2; have f3 := Q8.f3
                  constructor <;> simp [go_sem, e0, e1, e2, e3, i0, i1, i2, i3, j0, j1, j2, j3, f0, f1, f2, f3]
                have e0 := Q8.r0; have e1 := Q8.r1; have e2 := Q8.r2; have e3 := Q8.r3
                have i0 := Q8.v0; have i1 := Q8.v1; have i2 := Q8.v2; have i3 := Q8.v3
                have j0 := Q8.fr0; have j1 := Q8.fr1; have j2 := Q8.fr2; have j3 := Q8.fr3
                have f0 := Q8.f0; have f1 := Q8.f1; have f2 := Q8.f2; have f3 := Q8.f3
                have H5 : Hid (w.heap.size + 1 < w5.heap.size ∧ w5.heap.size ≤ w6.heap.size ∧ w6.heap.size ≤ w7.heap.size) := ⟨by omega, by omega, by omega⟩
                clear B5 B6 B7 B8 b6 b7 b8 b68 Q5 Q8 KW hsw hsd hso z6 z7 z8 hV5
                cases hw : textsJ jw with
                | none =>
                  have HN : Hid (ruleJ (.obj l) = none) := HF.out.noW (good_none hw)
                  obtain rfl : xw = false := by rw [← HXW, hw]; rfl
                  clear SW SD SO Q9 HXW hw
                  go_wp2
                  refine bodyPost_ret (v := .tuple #[.agg #[.bool false, .slice aw mw cw, .slice ad md cd, .slice ao mo co], .bool false]) ?_ rfl ?_
                  · simp [results, Tryd.results60, go_sem, e0, e1, e2, e3]
                  · exact qrulePost_no HN.out (below_out B9 (Nat.le_refl _) _ _ _ _)
                | some lw =>
                  obtain rfl : xw = true := by rw [← HXW, hw]; rfl
                  cases hd : textsJ jd with
                  | none =>
                    have HN : Hid (ruleJ (.obj l) = none) := HF.out.noD (good_none hd)
                    obtain rfl : xd = false := by rw [← HXD, hd]; rfl
                    clear SW SD SO Q9 HXW HXD hw hd
                    go_wp2
                    refine bodyPost_ret (v := .tuple #[.agg #[.bool false, .slice aw mw cw, .slice ad md cd, .slice ao mo co], .bool false]) ?_ rfl ?_
                    · simp [results, Tryd.results60, go_sem, e0, e1, e2, e3]
                    · exact qrulePost_no HN.out (below_out B9 (Nat.le_refl _) _ _ _ _)
                  | some ld =>
                    obtain rfl : xd = true := by rw [← HXD, hd]; rfl
                    cases ho : textsJ jo with
                    | none =>
                      have HN : Hid (ruleJ (.obj l) = none) := HF.out.noO (good_none ho)
                      obtain rfl : xo = false := by rw [← HXO, ho]; rfl
                      clear SW SD SO Q9 HXW HXD HXO hw hd ho
                      go_wp2
                      refine bodyPost_ret (v := .tuple #[.agg #[.bool false, .slice aw mw cw, .slice ad md cd, .slice ao mo co], .bool false]) ?_ rfl ?_
                      · simp [results, Tryd.results60, go_sem, e0, e1, e2, e3]
                      · exact qrulePost_no HN.out (below_out B9 (Nat.le_refl _) _ _ _ _)
                    | some lo =>
                      obtain rfl : xo = true := by rw [← HXO, ho]; rfl
                      have rw9 := SW.out lw hw; have rd9 := SD.out ld hd; have ro9 := SO.out lo ho
                      have HW : Hid (textsJ jw = some lw) := hw
                      have HD : Hid (textsJ jd = some ld) := hd
                      have HO : Hid (textsJ jo = some lo) := ho
                      clear SW SD SO HXW HXD HXO hw hd ho
                      go_wp2
                      clear e0 e1 e2 e3 i0 i1 i2 i3 j0 j1 j2 j3 f0 f1 f2 f3
                      generalize (((w8.setCell ⟨w.heap.size + 1, 1, none⟩ (.slice aw mw cw)).setCell ⟨w.heap.size + 1, 2, none⟩ (.slice ad md cd)).setCell ⟨w.heap.size + 1, 3, none⟩ (.slice ao mo co)) = w9 at *
                      have e0 := Q9.r0; have e1 := Q9.r1; have e2 := Q9.r2; have e3 := Q9.r3
                      have i0 := Q9.v0; have i1 := Q9.v1; have i2 := Q9.v2; have i3 := Q9.v3
                      have j0 := Q9.fr0; have j1 := Q9.fr1; have j2 := Q9.fr2; have j3 := Q9.fr3
                      have lw4 := texts_len HW.out
                      have ld4 := texts_len HD.out
                      have lo4 := texts_len HO.out
                      have SZW : Hid (∀ y ∈ lw, y.length ≤ 4000) := texts_bnd BW.out HW.out
                      have SZD : Hid (∀ y ∈ ld, y.length ≤ 4000) := texts_bnd BD.out HD.out
                      have SZO : Hid (∀ y ∈ lo, y.length ≤ 4000) := texts_bnd BO.out HO.out
                      obtain ⟨aw', cw', ew, _, hcw⟩ := row_view rw9
                      simp only [Value.slice.injEq] at ew
                      obtain ⟨rfl, rfl, rfl⟩ := ew
                      obtain ⟨ad', cd', ed, _, hcd⟩ := row_view rd9
                      simp only [Value.slice.injEq] at ed
                      obtain ⟨rfl, rfl, rfl⟩ := ed
                      have HCW : Hid (_) := hcw
                      have HCD : Hid (_) := hcd
                      have RW : Hid (_) := rw9
                      have RD : Hid (_) := rd9
                      have RO : Hid (_) := ro9
                      have HQ9 : Hid (_) := Q9
                      clear hcw hcd rw9 rd9 ro9 BW BD BO TW TD TO HT Q9
                      go_loop [21] (fun i => ∃ q : Nat, q ≤ lw.length ∧ i = .int .i64 q ∧ (lw.take q).all whoP = true) (fun i => lw.length - (intOf i).toNat)
                      case atStart => exact ⟨0, Nat.zero_le _, rfl, rfl⟩
                      case round =>
                        obtain ⟨q, hq, rfl, hno⟩ := hrel
                        have HA : Hid ((lw.take q).all whoP = true) := hno
                        clear hno
                        by_cases hlt : q < lw.length
                        · obtain ⟨gw, rfl, cq, _⟩ := HCW.out q (str lw[q]) (by rw [List.getElem?_map, List.getElem?_eq_getElem hlt]; rfl)
                          have NM : Hid (_) := qisName_any lw[q] w9 (by have := SZW.out _ (List.getElem_mem hlt); omega)
                          cases hn : nameP lw[q] with
                          | true =>
                            have HY : Hid ((lw.take (q + 1)).all whoP = true) := by show _ = _; rw [all_take_s _ _ _ hlt, HA.out, who_name hn]; rfl
                            clear HA
                            go_wp2_with (go_at_call 89; refine Calls.mono NM.out ?_; rw [hn]; rintro e w' ⟨rfl, rfl⟩)
                            go_round
                            case rel => exact ⟨q + 1, by omega, by go_num, HY.out⟩
                            case measure => simp [intOf]; omega
                          | false =>
                            by_cases hA : lw[q] = sAll
                            · have HY : Hid ((lw.take (q + 1)).all whoP = true) := by show _ = _; rw [all_take_s _ _ _ hlt, HA.out, who_star hA]; rfl
                              have t1 : (lw[q] == [42]) = true := by rw [hA]; rfl
                              clear HA hA
                              go_wp2_with (go_at_call 89; refine Calls.mono NM.out ?_; rw [hn]; rintro e w' ⟨rfl, rfl⟩)
                              go_round
                              case rel => exact ⟨q + 1, by omega, by go_num, HY.out⟩
                              case measure => simp [intOf]; omega
                            · have HN : Hid (ruleJ (.obj l) = none) := HF.out.noW (good_bad HW.out (all_false_s hlt (who_not hn hA)))
                              have t1 : (lw[q] == [42]) = false := by simpa [sAll] using hA
                              clear HA hA
                              go_wp2_with (go_at_call 89; refine Calls.mono NM.out ?_; rw [hn]; rintro e w' ⟨rfl, rfl⟩)
                              refine bodyPost_ret (v := .tuple #[.agg #[.bool false, .slice (some ⟨gw, 0, none⟩) lw.length cw, .slice ad ld.length cd, .slice ao mo co], .bool false]) ?_ rfl ?_
                              · simp [results, Tryd.results60, go_sem, e0, e1, e2, e3]
                              · exact qrulePost_no HN.out (below_out B9 (Nat.le_refl _) _ _ _ _)
                        · obtain rfl : q = lw.length := by omega
                          have HGW : Hid (goodJ whoP jw = some lw) := good_some HW.out (by have := HA.out; rwa [List.take_length] at this)
                          clear HA HW SZW HCW
                          go_wp2
                          clear e0 e1 e2 e3 i0 i1 i2 i3 j0 j1 j2 j3
                          go_loopw [23] (fun i wr => ∃ q : Nat, q ≤ ld.length ∧ i = .int .i64 q ∧ (ld.take q).all actP = true ∧ Below w9.heap.size w9 wr) (fun i _ => ld.length - (intOf i).toNat)
                          case atStart => exact ⟨0, Nat.zero_le _, rfl, rfl, Below.refl _ _⟩
                          case round =>
                            obtain ⟨q, hq, rfl, hno, hb⟩ := hrel
                            have HA : Hid ((ld.take q).all actP = true) := hno
                            clear hno
                            have QR := HQ9.out.below hb
                            have e0 := QR.r0; have e1 := QR.r1; have e2 := QR.r2; have e3 := QR.r3
                            have i0 := QR.v0; have i1 := QR.v1; have i2 := QR.v2; have i3 := QR.v3
                            have j0 := QR.fr0; have j1 := QR.fr1; have j2 := QR.fr2; have j3 := QR.fr3
                            have BR := below_trans B9 hb
                            by_cases hlt : q < ld.length
                            · obtain ⟨gd, rfl, cq, hgd⟩ := HCD.out q (str ld[q]) (by rw [List.getElem?_map, List.getElem?_eq_getElem hlt]; rfl)
                              replace cq := (hb.cell (p := ⟨gd, q, none⟩) hgd).trans cq
                              have hsz := hb.size
                              have bA : Below wr.heap.size wr (wr.alloc actsB) := (Below.refl _ _).alloc (Nat.le_refl _) _
                              have iA := (bA.cell (p := ⟨w.heap.size + 1, 2, none⟩) (World.block_lt_of_cell? wr ⟨w.heap.size + 1, 2, none⟩ i2)).trans i2
                              have cA := (bA.cell (p := ⟨gd, q, none⟩) (World.block_lt_of_cell? wr ⟨gd, q, none⟩ cq)).trans cq
                              have hVr : w.heap.size + 1 < wr.heap.size := World.block_lt_of_cell? wr ⟨w.heap.size + 1, 2, none⟩ i2
                              have hGr : gd < wr.heap.size := World.block_lt_of_cell? wr ⟨gd, q, none⟩ cq
                              have NA : Hid (_) := named_is (.slice (some ⟨wr.heap.size, 0, none⟩) 6 6) acts ld[q]
                              cases ha : actP ld[q] with
                              | true =>
                                have HY : Hid ((ld.take (q + 1)).all actP = true) := by show _ = _; rw [all_take_s _ _ _ hlt, HA.out, ha]; rfl
                                clear HA
                                go_wp2_with (go_at_call 90; refine (NA.out true (wr.alloc actsB) (acts_row wr) (by decide) ha).mono ?_; rintro e w' ⟨rfl, rfl⟩)
                                go_roundw
                                case rel => exact ⟨q + 1, by omega, by go_num, HY.out, hb.alloc hsz _⟩
                                case measure => simp [intOf]; omega
                              | false =>
                                have HN : Hid (ruleJ (.obj l) = none) := HF.out.noD (good_bad HD.out (all_false_s hlt ha))
                                clear HA
                                have QA := QR.below bA
                                have E0 := QA.r0; have E1 := QA.r1; have E2 := QA.r2; have E3 := QA.r3
                                have I0 := QA.v0; have I1 := QA.v1; have I3 := QA.v3
                                have J0 := QA.fr0; have J1 := QA.fr1; have J2 := QA.fr2; have J3 := QA.fr3
                                clear QA QR bA e0 e1 e2 e3 i0 i1 i3 j0 j1 j2 j3
                                go_wp2_with (go_at_call 90; refine (NA.out false (wr.alloc actsB) (acts_row wr) (by decide) ha).mono ?_; rintro e w' ⟨rfl, rfl⟩)
                                refine bodyPost_ret (v := .tuple #[.agg #[.bool false, .slice aw lw.length cw, .slice (some ⟨gd, 0, none⟩) ld.length cd, .slice ao mo co], .bool false]) ?_ rfl ?_
                                · simp [results, Tryd.results60, go_sem, E0, E1, E2, E3]
                                · exact qrulePost_no HN.out (below_out (BR.alloc BR.size _) (Nat.le_refl _) _ _ _ _)
                            · obtain rfl : q = ld.length := by omega
                              have HGD : Hid (goodJ actP jd = some ld) := good_some HD.out (by have := HA.out; rwa [List.take_length] at this)
                              have HY : Hid (ruleJ (.obj l) = some ⟨false, lw, ld, lo⟩) := HF.out.yes HE.out HGW.out HGD.out (good_some HO.out (by simp))
                              have h5 := H5.out
                              have x1 := srow.below RW.out hb
                              have x2 := srow_base (srow.below RD.out hb) h5.2.1
                              have x3 := srow_base (srow.below RO.out hb) (show w5.heap.size ≤ w7.heap.size by omega)
                              clear HA
                              go_wp2
                              refine bodyPost_ret (v := .tuple #[.agg #[.bool false, .slice aw lw.length cw, .slice ad ld.length cd, .slice ao mo co], .bool true]) ?_ rfl ?_
                              · simp [results, Tryd.results60, go_sem, e0, e1, e2, e3]
                              · exact qrule_yes HY.out BR (by omega) x1 x2 x3 lw4 ld4 lo4 SZO.out
            · have HN : Hid (ruleJ (.obj l) = none) := HF.out.noE (eff_other rfl (fun h => hD (Or.inr h)) (fun h => hD (Or.inl h)))
              have r2 : (s == [100, 101, 110, 121]) = false := by simpa [sDeny] using fun h => hD (Or.inl h)
              have r3 : (s == [97, 108, 108, 111, 119]) = false := by simpa [sAllow] using fun h => hD (Or.inr h)
              clear hD
              go_wp2
              refine bodyPost_ret (v := .tuple #[.agg #[.bool false, .slice none 0 0, .slice none 0 0, .slice none 0 0], .bool false]) ?_ rfl ?_
              · simp [results, Tryd.results60, go_sem, e0, e1, e2, e3]
              · exact qrulePost_no HN.out (below_out (B4.setCell (p := ⟨w.heap.size + 1, 0, none⟩) (Nat.le_succ _) _) (Nat.le_refl _) _ _ _ _)
          · have HN : Hid (ruleJ (.obj l) = none) := HF.out.noE (eff_not (by rw [← hkde]; exact h34))
            have r1 : ((nde.kind : Int) != 34) = true := by simp; omega
            clear hste h34 hkde
            go_wp2
            refine bodyPost_ret (v := .tuple #[.agg #[.bool false, .slice none 0 0, .slice none 0 0, .slice none 0 0], .bool false]) ?_ rfl ?_
            · simp [results, Tryd.results60, go_sem, e0, e1, e2, e3]
            · exact qrulePost_no HN.out (below_out B4 (Nat.le_refl _) _ _ _ _)
set_option maxHeartbeats 8000000 in
set_option maxRecDepth 20000 in
theorem qrule_any (b : Nat) (M : List Nd) (n k m : Nat) (j : J) (w : World) (hT : TV b M w) (ht : treeJ k M n j) (hbd : bnd (m + 3) j) :
    Calls Tryd.prog 60 #[.pointer (some ⟨b, 0, none⟩), .int .i64 (n : Int)] w (qrulePost w (ruleJ j)) := by
  by_cases h40 : ∃ l, j = .obj l ∧ l.length = 4
  · obtain ⟨l, rfl, h4⟩ := h40
    exact qrule_four b M n k m l w hT ht h4 hbd
  obtain ⟨nd, hn, hkd, -, -, hob, hnob⟩ := tree_kind ht
  have b0 : Below w.heap.size w ((w.alloc zeroQ).alloc zeroQ) := ((Below.refl _ _).alloc (Nat.le_refl _) _).alloc (by simp) _
  have Q0 := RQ.start w
  have T0 := hT.below b0
  obtain ⟨g, cap, a1, c1, a2, c2, V⟩ := T0.node hn
  have lt := V.lt; have cb := V.cb; have d2 := V.d2
  have hz0 : w.heap.size + 1 < ((w.alloc zeroQ).alloc zeroQ).heap.size := by simp
  by_cases h4 : nd.names.length = 4
  · refine absurd ?_ h40
    cases j with
    | obj l => exact ⟨l, rfl, by rw [← h4, (hob l rfl).1, List.length_map]⟩
    | _ => rw [hnob (by intro l e; cases e)] at h4; cases h4
  · have HN : Hid (ruleJ j = none) := not_four (fun l e => (hob l e).1) h4
    have p1 : ((nd.names.length : Int) != 4) = true := by simp; omega
    have e0 := Q0.r0; have e1 := Q0.r1; have e2 := Q0.r2; have e3 := Q0.r3
    have i0 := Q0.v0; have i1 := Q0.v1; have i2 := Q0.v2; have i3 := Q0.v3
    have j0 := Q0.fr0; have j1 := Q0.fr1; have j2 := Q0.fr2; have j3 := Q0.fr3
    clear hob hnob h4 ht hkd V Q0 T0 hT
    go_enter Tryd.func60, Tryd.ntmps60
    go_wp2
    refine bodyPost_ret (v := .tuple #[.agg #[.bool false, .slice none 0 0, .slice none 0 0, .slice none 0 0], .bool false]) ?_ rfl ?_
    · simp [results, Tryd.results60, go_sem]
    · exact qrulePost_no HN.out (((Below.refl _ _).alloc (Nat.le_refl _) _).alloc (by simp) _)
end Go.Proofs.YtinnliapfdpfpaaDoor.P
