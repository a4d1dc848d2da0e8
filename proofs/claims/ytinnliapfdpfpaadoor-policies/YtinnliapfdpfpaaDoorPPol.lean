/-
  POLICIES OF JSON VALUES: a policy.
-/
import Derived.Test.YtinnliapfdpfpaaDoorPRul
namespace Go.Proofs.YtinnliapfdpfpaaDoor.P
open Go.RowKit

theorem Tryd.infoR : (Tryd.prog.info? 113).map (fun i => (i.zero, i.size, i.bytes)) = some (some (.agg #[.int .i64 0, .slice none 0 0, .slice none 0 0, .slice none 0 0]), 4, 80) := by kernel_rfl
abbrev Quad := Int × Value × Value × Value
abbrev qcells (q : Quad) : List Value := [.int .i64 q.1, q.2.1, q.2.2.1, q.2.2.2]
def rcells (us : List Quad) : List Value := us.flatMap qcells
theorem rapp_step {w : World} {ops : Array Oper} {o : Oper} {a : Act} {K : Act → World → Prop} {Q : Exit → Act → World → Prop} {E : Prop} (hgd : o.guard = none) (s x : Operand)
    (ho : o.op = .call { callee := .builtin .append, args := #[s, x], argTypes := #[63, 63] })
    (B n : Nat) (us : List Value) (q : Quad) (h1 : q.2.1.oneCell' = true) (h2 : q.2.2.1.oneCell' = true) (h3 : q.2.2.2.oneCell' = true) (v : Value) (hs : a.eval s = v) (hown : w.ownsRow B 113 4 v n us) (H : Nat) (hx : a.eval x = .slice (some ⟨H, 0, none⟩) 1 1)
    (fr : Nat × Nat) (hblk : w.heap[H]? = some (.cells (qcells q).toArray 113 fr)) (hlen : n ≤ 1000000000) (hB : B ≤ w.heap.size)
    (h : ∀ g cap w', w'.ownsRow B 113 4 (.slice (some ⟨g, 0, none⟩) (n + 1) cap) (n + 1) (us ++ qcells q) → w.grownBy w' v.ownBlock → (v.ownBlock = some g ∨ g = w.heap.size) → K (a.put o.dst (.slice (some ⟨g, 0, none⟩) (n + 1) cap)) w') :
    if Region.wanted o (yielded ops a.tmps) = true then Oper.wp Tryd.prog o a w K Q else E := by
  obtain ⟨i0, hi, hz0, hz1, hz2⟩ := info_parts Tryd.infoR
  refine step_append_lies _ hgd s x 63 ho B 113 i0 (.agg #[.int .i64 0, .slice none 0 0, .slice none 0 0, .slice none 0 0]) 4 80 Tryd.underlying63 hi hz0 hz1 hz2 rfl (by omega) v n us hs hown ⟨H, 0, none⟩ 1 1 (qcells q) hx (by simp)
    (fun j u hu => World.news_of_block hblk j u (by simpa using hu)) (by intro y hy; simp at hy; rcases hy with e | e | e | e <;> rw [e] <;> first | exact h1 | exact h2 | exact h3 | rfl) (by omega) (by unfold maxLen; omega) (by omega) hB w.heap.size rfl ?_
  intro g cap w' h1 h2 h3 _
  exact h g cap w' h1 h2 h3

/-- What holds of the variables of readPolicy. -/
structure PQ (R V B : Nat) (w0 : World) (rs : List RuleP) (w : World) : Prop where
  lR : R < B
  lV : V < B
  nRV : ¬ R = V
  top : B ≤ w.heap.size
  oR : w0.heap.size ≤ R
  oV : w0.heap.size ≤ V
  oB : w0.heap.size ≤ B
  cR : w.cell? ⟨R, 0, none⟩ = some (.slice none 0 0)
  fR : w.frozen? ⟨R, 0, none⟩ = false
  fV : w.frozen? ⟨V, 0, none⟩ = false
  kept : Below w0.heap.size w0 w
  vals : ∃ sl us, w.cell? ⟨V, 0, none⟩ = some sl ∧ w.ownsRow B 113 4 sl rs.length (rcells us) ∧ all2 (relR w (fun g => B ≤ g ∧ sl.ownBlock ≠ some g)) us rs
theorem PQ.push {R V B : Nat} {w0 : World} {rs : List RuleP} {w w1 wA w3 : World} (q : PQ R V B w0 rs w) {sl : Value} {us : List Quad} (hsl : w.cell? ⟨V, 0, none⟩ = some sl)
    (hall : all2 (relR w (fun g => B ≤ g ∧ sl.ownBlock ≠ some g)) us rs) (hrow : w.ownsRow B 113 4 sl rs.length (rcells us))
    {u : Quad} {r : RuleP} (h1 : Below w.heap.size w w1) (hj : relR w1 (fun g => w.heap.size ≤ g) u r) (hA : Below w1.heap.size w1 wA) {g cap : Nat}
    (h3 : w3.ownsRow B 113 4 (.slice (some ⟨g, 0, none⟩) (rs.length + 1) cap) (rs.length + 1) (rcells us ++ qcells u)) (h4 : wA.grownBy w3 sl.ownBlock) (h5 : sl.ownBlock = some g ∨ g = wA.heap.size) :
    PQ R V B w0 (rs ++ [r]) (w3.setCell ⟨V, 0, none⟩ (.slice (some ⟨g, 0, none⟩) (rs.length + 1) cap)) := by
  have hV := q.lV; have ht := q.top; have hs1 := h1.size; have hsA := hA.size; have hs4 := h4.size; have hR := q.lR; have oR := q.oR; have oV := q.oV; have oB := q.oB
  have nRV := q.nRV
  have hslB := fun g hg => (World.ownsRow.lt hrow g hg)
  have nsl : ∀ x, x < B → ¬ sl.ownBlock = some x := fun x hx e => by have := (hslB _ e).1; omega
  have K1 : Kept (fun x => sl.ownBlock = some x) w w3 :=
    ((Kept.of_below h1).mono (T := fun x => sl.ownBlock = some x) (fun x hx e => by omega)).trans (Kept.of_below hA) (fun x hx e => by omega) |>.trans (Kept.of_grown h4) (fun x _ e => e)
  have KV : Kept (· = V) w3 (w3.setCell ⟨V, 0, none⟩ (.slice (some ⟨g, 0, none⟩) (rs.length + 1) cap)) := Kept.of_grown1 (grown_set _ _ _ _)
  have cV3 : w3.cell? ⟨V, 0, none⟩ = some sl := K1.cell hsl (nsl V hV)
  have fV3 : w3.frozen? ⟨V, 0, none⟩ = false := K1.frozen (a := ⟨V, 0, none⟩) (show V < _ by omega) q.fV (nsl V hV)
  refine ⟨q.lR, q.lV, q.nRV, by simp; omega, q.oR, q.oV, q.oB, ?_, ?_, ?_, ?_, .slice (some ⟨g, 0, none⟩) (rs.length + 1) cap, us ++ [u], ?_, ?_, ?_⟩
  · exact KV.cell (K1.cell q.cR (nsl R hR)) nRV
  · exact KV.frozen (a := ⟨R, 0, none⟩) (show R < _ by omega) (K1.frozen (a := ⟨R, 0, none⟩) (show R < _ by omega) q.fR (nsl R hR)) nRV
  · simp [go_sem, fV3]
  · exact (((Kept.of_below q.kept).trans K1 (fun x hx e => by have := (hslB _ e).1; omega)).trans KV (fun x hx e => by omega)).below (Nat.le_refl _) (fun k e => e)
  · simp [go_sem, cV3]
  · rw [List.length_append, show rcells (us ++ [u]) = rcells us ++ qcells u by simp [rcells]]; exact KV.row h3 (fun x hx e => by have := (World.ownsRow.lt h3 x hx).1; omega)
  · refine all2_snoc ?_ ?_
    · have hj1 := hj.inb
      have K3 : Kept (fun x => x = V ∨ sl.ownBlock = some x ∨ w1.heap.size ≤ x) w1 (w3.setCell ⟨V, 0, none⟩ (.slice (some ⟨g, 0, none⟩) (rs.length + 1) cap)) :=
        (((Kept.of_below hA).mono (T := fun x => x = V ∨ sl.ownBlock = some x ∨ w1.heap.size ≤ x) (fun _ _ e => Or.inr (Or.inr e))).trans (Kept.of_grown h4) (fun x _ e => Or.inr (Or.inl e))).trans KV (fun x _ e => Or.inl e)
      refine (hj1.kept K3 ?_).mono ?_
      · rintro x ⟨e1, e2⟩ (e | e | e)
        · omega
        · have := (hslB _ e).2; omega
        · omega
      · rintro x ⟨e1, e2⟩
        refine ⟨by omega, fun e => ?_⟩
        simp [Value.ownBlock] at e
        subst e
        rcases h5 with e | e
        · have := (hslB _ e).2; omega
        · omega
    · refine all2_mono (fun u i hr => ?_) hall
      refine ((hr.inb.kept K1 ?_).kept KV ?_).mono ?_
      · rintro x ⟨⟨e1, e2⟩, e3⟩ e
        exact e2 e
      · rintro x ⟨⟨e1, e2⟩, e3⟩ e
        omega
      · rintro x ⟨⟨e1, e2⟩, e3⟩
        refine ⟨e1, fun e => ?_⟩
        simp [Value.ownBlock] at e
        subst e
        rcases h5 with e | e
        · exact e2 e
        · omega
theorem rulesJ_snoc : ∀ (l : List J) (j : J), rulesJ (l ++ [j]) = match rulesJ l with
    | none => none
    | some a => match ruleJ j with
      | none => none
      | some s => some (a ++ [s])
  | [], j => by simp only [List.nil_append, rulesJ]; cases ruleJ j <;> rfl
  | i :: l, j => by
    simp only [List.cons_append, rulesJ]
    cases ruleJ i with
    | none => rfl
    | some s =>
      simp only [rulesJ_snoc l j]
      cases rulesJ l with
      | none => rfl
      | some a => simp only [Option.map]; cases ruleJ j <;> rfl
theorem rulesJ_none : ∀ (l m : List J), rulesJ l = none → rulesJ (l ++ m) = none
  | [], m, h => by simp [rulesJ] at h
  | i :: l, m, h => by
    simp only [List.cons_append, rulesJ] at *
    cases hi : ruleJ i with
    | none => rfl
    | some s =>
      rw [hi] at h
      simp only at h ⊢
      cases hs : rulesJ l with
      | none => rw [rulesJ_none l m hs]; rfl
      | some a => rw [hs] at h; cases h
theorem rulesJ_on {l : List J} {i : Nat} {a : List RuleP} (h : rulesJ (l.take i) = some a) (hi : i < l.length) {r : RuleP} (hr : ruleJ l[i] = some r) : rulesJ (l.take (i + 1)) = some (a ++ [r]) := by
  rw [take_snoc' hi, rulesJ_snoc, h]; simp only; rw [hr]
theorem rulesJ_bad {l : List J} {i : Nat} {a : List RuleP} (h : rulesJ (l.take i) = some a) (hi : i < l.length) (hr : ruleJ l[i] = none) : rulesJ l = none := by
  have := rulesJ_none (l.take (i + 1)) (l.drop (i + 1)) (by rw [take_snoc' hi, rulesJ_snoc, h]; simp only; rw [hr])
  rwa [List.take_append_drop] at this
theorem policyJ_is (j : J) : policyJ j = match objN 1 j with
    | none => none
    | some l => match findM l sRules with
      | none => none
      | some r => match arrJ r with
        | none => none
        | some k => if k.length ≤ 4 then rulesJ k else none := by
  cases j with
  | obj l =>
    by_cases h : l.length = 1
    · simp only [policyJ, objN, h, if_true]
      cases findM l sRules with
      | none => rfl
      | some r => cases r <;> rfl
    · simp only [policyJ, objN, h, if_false]
  | _ => rfl
def policyIn (w : World) (P : Nat → Prop) (sl : Value) (rs : List RuleP) : Prop := ∃ us, w.ownsRow 0 113 4 sl rs.length (rcells us) ∧ (∀ g, sl.ownBlock = some g → P g) ∧ all2 (relR w P) us rs
abbrev policyAt (w : World) (sl : Value) (rs : List RuleP) : Prop := policyIn w (inW w) sl rs
theorem policyIn.mono {w : World} {P Q : Nat → Prop} {sl : Value} {rs : List RuleP} (h : policyIn w P sl rs) (hq : ∀ g, P g → Q g) : policyIn w Q sl rs := by
  obtain ⟨us, h1, h2, h3⟩ := h
  exact ⟨us, h1, fun g e => hq g (h2 g e), all2_mono (fun _ _ hr => hr.mono hq) h3⟩
theorem policyIn.kept {w w' : World} {S P : Nat → Prop} {sl : Value} {rs : List RuleP} (h : policyIn w P sl rs) (k : Kept S w w') (hq : ∀ g, P g → ¬ S g) : policyIn w' P sl rs := by
  obtain ⟨us, h1, h2, h3⟩ := h
  exact ⟨us, k.row h1 (fun g e => hq g (h2 g e)), h2, all2_mono (fun _ _ hr => hr.kept k hq) h3⟩
theorem policyIn.inb {w : World} {P : Nat → Prop} {sl : Value} {rs : List RuleP} (h : policyIn w P sl rs) : policyIn w (fun g => P g ∧ g < w.heap.size) sl rs := by
  obtain ⟨us, h1, h2, h3⟩ := h
  exact ⟨us, h1, fun g e => ⟨h2 g e, (World.ownsRow.lt h1 g e).2⟩, all2_mono (fun _ _ hr => hr.inb) h3⟩
def polPost (w : World) (o : Option (List RuleP)) (e : Ending) (w' : World) : Prop :=
  Below w.heap.size w w' ∧ match o with
  | none => e = .panicked noP
  | some rs => ∃ sl, e = .returned (.agg #[sl]) ∧ policyIn w' (fun g => w.heap.size ≤ g) sl rs
theorem polPost_no {w w' : World} {o : Option (List RuleP)} (h : o = none) (hb : Below w.heap.size w w') : polPost w o (.panicked noP) w' := by subst h; exact ⟨hb, rfl⟩
theorem relR.slices {w : World} {P : Nat → Prop} {q : Quad} {r : RuleP} (h : relR w P q r) : ∃ x a1 n1 c1 a2 n2 c2 a3 n3 c3, q = (x, .slice a1 n1 c1, .slice a2 n2 c2, .slice a3 n3 c3) := by
  obtain ⟨x, v1, v2, v3⟩ := q
  obtain ⟨a1, n1, c1, e1⟩ := srow_slice h.who
  obtain ⟨a2, n2, c2, e2⟩ := srow_slice h.act
  obtain ⟨a3, n3, c3, e3⟩ := srow_slice h.on
  simp at e1 e2 e3
  exact ⟨x, a1, n1, c1, a2, n2, c2, a3, n3, c3, by rw [e1, e2, e3]⟩

theorem below_undrew {w w' : World} (h : Below w.drew.heap.size w.drew w') : Below w.heap.size w w' := ⟨h.os, h.tape, h.output, h.size, h.block⟩
theorem RJ_drew {k : Nat} {w : World} {v : Value} {j : J} (h : repJ k w (inW w) v j) : repJ k w.drew (inW w.drew) v j := RJ_below h (below_drew w)
abbrev zeroP : Obj := .cells #[.slice none 0 0] 65
theorem PQ.start {w wA : World} (b : Below (w.alloc zeroP).heap.size (w.alloc zeroP) wA) : PQ w.heap.size wA.heap.size (wA.heap.size + 1) w [] (wA.alloc zeroP) := by
  have hs := b.size
  simp at hs
  have c0 : (w.alloc zeroP).cell? ⟨w.heap.size, 0, none⟩ = some (.slice none 0 0) := by simp [go_sem]
  have f0 : (w.alloc zeroP).frozen? ⟨w.heap.size, 0, none⟩ = false := by simp [go_sem]
  have hl : w.heap.size < (w.alloc zeroP).heap.size := by simp
  refine ⟨by omega, by omega, by omega, by simp, Nat.le_refl _, by omega, by omega, ?_, ?_, ?_, ?_, .slice none 0 0, [], ?_, World.ownsRow_nil _ _ _ _, trivial⟩
  · exact cell_alloc ((b.cell (p := ⟨w.heap.size, 0, none⟩) hl).trans c0) _
  · exact (Kept.of_grown (World.grownBy_alloc wA _ none)).frozen (a := ⟨w.heap.size, 0, none⟩) (show w.heap.size < _ by omega) ((b.frozen (p := ⟨w.heap.size, 0, none⟩) hl).trans f0) (by simp)
  · simp [go_sem]
  · exact (((Below.refl _ w).alloc (Nat.le_refl _) zeroP).trans (b.mono (by simp))).alloc (by omega) _
  · simp [go_sem]
set_option maxHeartbeats 4000000 in
set_option maxRecDepth 20000 in
theorem readPolicy_any (k : Nat) (v : Value) (j : J) (w : World) (h : repJ k w (inW w) v j) :
    Calls Tryd.prog 57 #[v] w (polPost w (policyJ j)) := by
  have b0 : Below w.heap.size w (w.alloc zeroP) := (Below.refl _ _).alloc (Nat.le_refl _) _
  have M := membersOf_any k v j (w.alloc zeroP) 1 (RJ_alloc h _)
  have HR : Hid (policyJ j = _) := policyJ_is j
  cases ho : objN 1 j with
  | none =>
    rw [ho] at M HR
    have M2 : Calls Tryd.prog 83 #[v, .int .i64 1] (w.alloc zeroP) fun e w' => e = .panicked noP ∧ w.alloc zeroP = w' := M
    clear M
    go_enter Tryd.func57, Tryd.ntmps57
    go_wp2_with (go_at_call 83; refine M2.mono ?_; rintro e w' ⟨rfl, rfl⟩)
    exact ⟨rfl, polPost_no HR.out b0⟩
  | some l =>
    rw [ho] at M HR
    have M2 : Calls Tryd.prog 83 #[v, .int .i64 1] (w.alloc zeroP) fun e w' => (∃ sl, e = .returned sl ∧ membs (k - 1) (w.alloc zeroP) sl l) ∧ w.alloc zeroP = w' := M
    have hl4 : l.length ≤ 1000000 := by
      cases j with
      | obj m => simp only [objN] at ho; split at ho <;> simp_all
      | _ => cases ho
    clear M
    go_enter Tryd.func57, Tryd.ntmps57
    go_wp2_with fail
    refine M2.mono ?_
    rintro e w' ⟨⟨sl, rfl, hm⟩, rfl⟩
    clear M2 h
    go_wp2_with fail
    refine (find_any (k - 1) sl l sRules _ hm hl4).mono ?_
    cases hF : findM l sRules with
    | none =>
      rintro e w1 ⟨b1, rfl⟩
      have HN : Hid (policyJ j = none) := by show _ = _; rw [HR.out]; simp only [hF]
      clear HR
      go_wp2
      exact ⟨rfl, polPost_no HN.out (below_trans b0 b1)⟩
    | some jr =>
      rintro e w1 ⟨b1, v1, rfl, r1⟩
      have A := arrayOf_any (k - 1) v1 jr w1 r1
      cases ha : arrJ jr with
      | none =>
        have HN : Hid (policyJ j = none) := by show _ = _; rw [HR.out]; simp only [hF, ha]
        clear HR
        rw [ha] at A
        have A2 : Calls Tryd.prog 81 #[v1] w1 fun e w' => e = .panicked noP ∧ w1 = w' := A
        clear A
        go_wp2_with (go_at_call 81; refine A2.mono ?_; rintro e w' ⟨rfl, rfl⟩)
        exact ⟨rfl, polPost_no HN.out (below_trans b0 b1)⟩
      | some m =>
        have HM : Hid (policyJ j = if m.length ≤ 4 then rulesJ m else none) := by show _ = _; rw [HR.out]; simp only [hF, ha]
        clear HR
        rw [ha] at A
        have A2 : Calls Tryd.prog 81 #[v1] w1 fun e w' => (∃ sl, e = .returned sl ∧ elems (k - 1 - 1) w1 sl m) ∧ w1 = w' := A
        clear A
        go_wp2_with fail
        refine A2.mono ?_
        rintro e w' ⟨⟨s2, rfl, us, hrow, hall⟩, rfl⟩
        clear A2
        have hlen := all2_len hall
        obtain ⟨a, cap, rfl, hcap, hcells⟩ := row_view hrow
        have HC : Hid (∀ j u, us[j]? = some u → ∃ g, a = some ⟨g, 0, none⟩ ∧ w1.cell? ⟨g, j, none⟩ = some u ∧ g < w1.heap.size) := hcells
        have HA : Hid (all2 (repJ (k - 1 - 1) w1 (inW w1)) us m) := hall
        have Q0 := PQ.start (w := w) b1
        have b01 := below_trans b0 b1
        clear hcells hall hrow hm r1 b0 b1
        by_cases hm4 : m.length ≤ 4
        · have t2 : decide ((m.length : Int) ≤ 4) = true := by simp; omega
          have HP : Hid (policyJ j = rulesJ m) := by show _ = _; rw [HM.out, if_pos hm4]
          clear HM
          go_wp2_with (go_at_call 84; refine (rneed_ok _).mono ?_; rintro e w' ⟨rfl, rfl⟩)
          go_loopw [17] (fun i wr => ∃ n : Nat, ∃ rs, n ≤ m.length ∧ i = .int .i64 n ∧ rulesJ (m.take n) = some rs ∧ rs.length ≤ n ∧ PQ w.heap.size w1.heap.size (w1.heap.size + 1) w rs wr ∧ Below w1.heap.size w1 wr) (fun i _ => m.length - (intOf i).toNat)
          case atStart => exact ⟨0, [], Nat.zero_le _, rfl, rfl, Nat.le_refl _, Q0, (Below.refl _ _).alloc (Nat.le_refl _) _⟩
          case round =>
            obtain ⟨n, rs, hn, rfl, hso, hrs, q, hb⟩ := hrel
            have HS : Hid (rulesJ (m.take n) = some rs) := hso
            clear hso
            have hsz := hb.size
            by_cases hlt : n < m.length
            · have hu : n < us.length := by omega
              obtain ⟨g', rfl, c1, hg⟩ := HC.out n us[n] (List.getElem?_eq_getElem hu)
              have hj := RJ_below (all2_get HA.out n hu hlt) hb
              obtain ⟨vt, vx, hv⟩ := repJ.iface _ hj
              rw [hv] at c1 hj
              replace c1 := (hb.cell (p := ⟨g', n, none⟩) hg).trans c1
              have fV := q.fV
              obtain ⟨sl, uq, cV, hrow, hall⟩ := q.vals
              have RR : Hid (_) := readRule_any (k - 1 - 1) (.iface vt vx) m[n]
              go_wp2_with fail
              clear hv
              cases hr : ruleJ m[n] with
              | none =>
                have HN : Hid (policyJ j = none) := by show _ = _; rw [HP.out]; exact rulesJ_bad HS.out hlt hr
                rw [hr] at RR
                clear HS HP
                refine wp_region_held (S := fun w' => w'.cell? ⟨w1.heap.size, 0, none⟩ = some sl) (by kernel_rfl) ?_
                refine wpAnyH_take (i := 0) (v := .pointer (some ⟨w1.heap.size, 0, none⟩)) rfl (by kernel_rfl) (by kernel_rfl) (by kernel_rfl) (fun _ _ _ h => h) (Or.inl ⟨by rfl, ?_⟩) cV ?_
                · intro w hSw
                  go_simp
                simp only [Act.put, List.setIfInBounds_toArray]
                refine wpAnyH_take (i := 1) (v := sl) rfl (by kernel_rfl) (by kernel_rfl) (by kernel_rfl) (fun _ _ _ h => h) (Or.inl ⟨by rfl, ?_⟩) cV ?_
                · intro w hSw
                  go_simp
                simp only [Act.put]
                refine wpAnyH_take (i := 2) (v := .iface vt vx) rfl (by kernel_rfl) (by kernel_rfl) (by kernel_rfl) (fun _ _ _ h => h) (Or.inl ⟨by rfl, ?_⟩) cV ?_
                · intro w hSw
                  go_simp
                simp only [Act.put]
                refine wpAnyH_ready (rs := [3]) (by kernel_rfl) (by simp) ?_
                refine AllReadyH.cons rfl (fun K hK => ?_) AllReadyH.nil
                go_simp
                refine (RR.out wr.drew (RJ_drew hj)).mono ?_
                rintro e w6 ⟨b6, rfl⟩
                exact ⟨rfl, polPost_no HN.out (below_trans q.kept (below_undrew b6))⟩
              | some r =>
                have HY : Hid (rulesJ (m.take (n + 1)) = some (rs ++ [r])) := rulesJ_on HS.out hlt hr
                rw [hr] at RR
                clear HS
                have OB : ∀ x, x < w1.heap.size + 1 → some x ≠ sl.ownBlock := fun x hx e => by have := (World.ownsRow.lt hrow x e.symm).1; omega
                have cV0 : wr.cell? ⟨w1.heap.size, 0, none⟩ = some sl := cV
                have HL : rs.length ≤ 1000000000 := by omega
                have top := q.top
                go_region_law
                  (first
                    | (go_simp; go_at_call 85; refine (RR.out _ (by first | exact hj | exact RJ_drew hj)).mono ?_; rintro e w6 ⟨b6, u6, rfl, r6⟩; obtain ⟨x, a1, n1, e1, a2, n2, e2, a3, n3, e3, rfl⟩ := relR.slices r6; replace b6 := below_undrew b6; have z6 := b6.size; replace fV := (b6.frozen (p := ⟨w1.heap.size, 0, none⟩) (show w1.heap.size < wr.heap.size by omega)).trans fV; replace cV := (b6.cell (p := ⟨w1.heap.size, 0, none⟩) (show w1.heap.size < wr.heap.size by omega)).trans cV; have cVa := cell_alloc cV (.cells #[.int .i64 x, .slice a1 n1 e1, .slice a2 n2 e2, .slice a3 n3 e3] 113); have row6 := (Kept.of_below b6).row hrow (fun x hx e => by have := (World.ownsRow.lt hrow x hx).2; omega))
                    | (refine rapp_step rfl _ _ rfl (w1.heap.size + 1) rs.length (rcells uq) (x, .slice a1 n1 e1, .slice a2 n2 e2, .slice a3 n3 e3) rfl rfl rfl _ rfl (row6.alloc _) _ rfl _ (heap_alloc_new _ _) HL (by simp; omega) ?_; intro g cap w8 row8 g8 h8; have cV8 := g8.cell (cell_alloc cV _) (OB _ (Nat.lt_succ_self _)); have fV8 := (Kept.of_grown g8).frozen (a := ⟨w1.heap.size, 0, none⟩) (by simp; omega) ((Kept.of_grown (World.grownBy_alloc _ _ none)).frozen (a := ⟨w1.heap.size, 0, none⟩) (show w1.heap.size < w6.heap.size by omega) fV (by simp)) (fun e => OB _ (Nat.lt_succ_self _) e.symm)))
                all_goals go_wp2
                all_goals go_roundw
                case rel => exact ⟨n + 1, rs ++ [r], by omega, by go_num, HY.out, by simp; omega, q.push cV0 hall hrow b6 r6 ((Below.refl _ _).alloc (Nat.le_refl _) _) row8 g8 h8, (((hb.trans (b6.mono hsz)).alloc (by omega) _).grown g8 (by simp; omega) (fun x hx => by have := (World.ownsRow.lt hrow x hx).1; omega)).setCell (p := ⟨w1.heap.size, 0, none⟩) (Nat.le_refl _) _⟩
                case measure => simp [intOf]; omega
                case rel => exact ⟨n + 1, rs ++ [r], by omega, by go_num, HY.out, by simp; omega, q.push cV0 hall hrow b6 r6 ((Below.refl _ _).alloc (Nat.le_refl _) _) row8 g8 h8, (((hb.trans (b6.mono hsz)).alloc (by omega) _).grown g8 (by simp; omega) (fun x hx => by have := (World.ownsRow.lt hrow x hx).1; omega)).setCell (p := ⟨w1.heap.size, 0, none⟩) (Nat.le_refl _) _⟩
                case measure => simp [intOf]; omega
                case rel => exact ⟨n + 1, rs ++ [r], by omega, by go_num, HY.out, by simp; omega, q.push cV0 hall hrow b6 r6 ((Below.refl _ _).alloc (Nat.le_refl _) _) row8 g8 h8, (((hb.trans (b6.mono hsz)).alloc (by omega) _).grown g8 (by simp; omega) (fun x hx => by have := (World.ownsRow.lt hrow x hx).1; omega)).setCell (p := ⟨w1.heap.size, 0, none⟩) (Nat.le_refl _) _⟩
                case measure => simp [intOf]; omega
            · obtain rfl : n = m.length := by omega
              have HD : Hid (policyJ j = some rs) := by show _ = _; rw [HP.out]; have := HS.out; rwa [List.take_length] at this
              obtain ⟨sl, uq, cV, hrow, hall⟩ := q.vals
              have cR := q.cR; have fR := q.fR; have nRV := q.nRV; have kept := q.kept; have lR := q.lR; have oB := q.oB; have top := q.top
              have HP2 : Hid (policyIn (wr.setCell ⟨w.heap.size, 0, none⟩ sl) (fun g => w.heap.size ≤ g) sl rs) := by
                have KR : Kept (· = w.heap.size) wr (wr.setCell ⟨w.heap.size, 0, none⟩ sl) := Kept.of_grown1 (grown_set _ _ _ _)
                exact ⟨uq, row_mono (KR.row hrow (fun x hx e => by have := (World.ownsRow.lt hrow x hx).1; omega)), (fun x hx => by have := (World.ownsRow.lt hrow x hx).1; omega), all2_mono (fun _ _ hr => (hr.kept KR (fun x hx e => by omega)).mono (fun x hx => by omega)) hall⟩
              have KB := kept.setCell (p := ⟨w.heap.size, 0, none⟩) (Nat.le_refl _) sl
              obtain ⟨av, nv, rfl, _⟩ := row_view hrow
              clear HS HP q hrow hall HC HA
              go_wp2
              refine bodyPost_ret (v := .agg #[.slice av rs.length nv]) ?_ rfl ?_
              · simp [results, Tryd.results57, go_sem, cR]
              rw [HD.out]
              exact ⟨KB, _, rfl, HP2.out⟩
        · have t2 : decide ((m.length : Int) ≤ 4) = false := by simp; omega
          have HN : Hid (policyJ j = none) := by show _ = _; rw [HM.out, if_neg hm4]
          clear HM
          go_wp2_with (go_at_call 84; refine (rneed_no _).mono ?_; rintro e w' ⟨rfl, rfl⟩)
          exact ⟨rfl, polPost_no HN.out b01⟩
end Go.Proofs.YtinnliapfdpfpaaDoor.P
