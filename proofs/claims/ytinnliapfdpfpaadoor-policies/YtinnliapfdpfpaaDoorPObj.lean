/-
  THE READER OF JSON: what stands in an object.
-/
import Derived.Test.YtinnliapfdpfpaaDoorPArr2
namespace Go.Proofs.YtinnliapfdpfpaaDoor.P
open Go.RowKit

theorem Tryd.infoM : (Tryd.prog.info? 164).map (fun i => (i.zero, i.size, i.bytes)) = some (some (.agg #[.string ⟨#[]⟩, .nilIface]), 2, 32) := by kernel_rfl
theorem mapp_step {w : World} {ops : Array Oper} {o : Oper} {a : Act} {K : Act → World → Prop} {Q : Exit → Act → World → Prop} {E : Prop} (hgd : o.guard = none) (s x : Operand)
    (ho : o.op = .call { callee := .builtin .append, args := #[s, x], argTypes := #[138, 138] })
    (B n : Nat) (us : List Value) (nm : List UInt8) (u : Value) (hu : u.oneCell' = true) (v : Value) (hs : a.eval s = v) (hown : w.ownsRow B 164 2 v n us) (H : Nat) (hx : a.eval x = .slice (some ⟨H, 0, none⟩) 1 1)
    (fr : Nat × Nat) (hblk : w.heap[H]? = some (.cells #[str nm, u] 164 fr)) (hlen : n ≤ 1000000000) (hB : B ≤ w.heap.size)
    (h : ∀ g cap w', w'.ownsRow B 164 2 (.slice (some ⟨g, 0, none⟩) (n + 1) cap) (n + 1) (us ++ [str nm, u]) → w.grownBy w' v.ownBlock → (v.ownBlock = some g ∨ g = w.heap.size) → K (a.put o.dst (.slice (some ⟨g, 0, none⟩) (n + 1) cap)) w') :
    if Region.wanted o (yielded ops a.tmps) = true then Oper.wp Tryd.prog o a w K Q else E := by
  obtain ⟨i0, hi, hz0, hz1, hz2⟩ := info_parts Tryd.infoM
  refine step_append_lies _ hgd s x 138 ho B 164 i0 (.agg #[.string ⟨#[]⟩, .nilIface]) 2 32 Tryd.underlying138 hi hz0 hz1 hz2 rfl (by omega) v n us hs hown ⟨H, 0, none⟩ 1 1 [str nm, u] hx (by simp)
    (fun j u hu => World.news_of_block hblk j u (by simpa using hu)) (by intro y hy; simp at hy; rcases hy with rfl | rfl <;> first | rfl | exact hu) (by omega) (by unfold maxLen; omega) (by omega) hB w.heap.size rfl ?_
  intro g cap w' h1 h2 h3 _
  exact h g cap w' h1 h2 h3

/-- What holds of the variables of readObject. -/
structure OQ (k b R O V B : Nat) (d : Int) (w0 : World) (acc : List (List UInt8 × J)) (w : World) : Prop where
  lR : R < B
  lO : O < B
  lV : V < B
  lb : b < B
  nR : ¬ R = b
  nO : ¬ O = b
  nV : ¬ V = b
  nRV : ¬ R = V
  nOV : ¬ O = V
  top : B ≤ w.heap.size
  old : w0.heap.size ≤ V
  oldB : w0.heap.size ≤ B
  cR : w.cell? ⟨R, 0, none⟩ = some (.pointer (some ⟨b, 0, none⟩))
  cO : w.cell? ⟨O, 0, none⟩ = some (.int .i64 d)
  fV : w.frozen? ⟨V, 0, none⟩ = false
  kept : w0.grownBy w (some b)
  vals : ∃ sl us, w.cell? ⟨V, 0, none⟩ = some sl ∧ w.ownsRow B 164 2 sl acc.length (mcells us) ∧ all2 (fun (u : List UInt8 × Value) (j : List UInt8 × J) => u.1 = j.1 ∧ repJ k w (fun g => B ≤ g ∧ sl.ownBlock ≠ some g) u.2 j.2) us acc
theorem OQ.grown {k b R O V B : Nat} {d : Int} {w0 : World} {acc : List (List UInt8 × J)} {w w' : World} (q : OQ k b R O V B d w0 acc w) (h : w.grownBy w' (some b)) : OQ k b R O V B d w0 acc w' := by
  have K := Kept.of_grown1 h
  obtain ⟨sl, us, h1, h2, h3⟩ := q.vals
  have hV := q.lV; have ht := q.top; have hs := h.size; have hb := q.lb
  refine ⟨q.lR, q.lO, q.lV, q.lb, q.nR, q.nO, q.nV, q.nRV, q.nOV, by omega, q.old, q.oldB, K.cell q.cR q.nR, K.cell q.cO q.nO, K.frozen (a := ⟨V, 0, none⟩) (show V < _ by omega) q.fV q.nV, grown_trans q.kept h, sl, us, K.cell h1 q.nV, ?_, ?_⟩
  · exact K.row h2 (fun g hg e => by have := (World.ownsRow.lt h2 g hg).1; omega)
  · exact all2_mono (fun _ _ hr => ⟨hr.1, repJ.kept k hr.2 K (fun g hg e => by omega)⟩) h3
theorem OQ.push {k b R O V B : Nat} {d : Int} {w0 : World} {acc : List (List UInt8 × J)} {w w1 wA w3 : World} (q : OQ k b R O V B d w0 acc w) {sl : Value} {us : List (List UInt8 × Value)} (hsl : w.cell? ⟨V, 0, none⟩ = some sl)
    (hall : all2 (fun (u : List UInt8 × Value) (j : List UInt8 × J) => u.1 = j.1 ∧ repJ k w (fun g => B ≤ g ∧ sl.ownBlock ≠ some g) u.2 j.2) us acc) (hrow : w.ownsRow B 164 2 sl acc.length (mcells us))
    {nm : List UInt8} {v : Value} {j : J} (h1 : w.grownBy w1 (some b)) (hj : repJ k w1 (fun g => w.heap.size ≤ g) v j) (hA : Below w1.heap.size w1 wA) {g cap : Nat}
    (h3 : w3.ownsRow B 164 2 (.slice (some ⟨g, 0, none⟩) (acc.length + 1) cap) (acc.length + 1) (mcells us ++ [str nm, v])) (h4 : wA.grownBy w3 sl.ownBlock) (h5 : sl.ownBlock = some g ∨ g = wA.heap.size) :
    OQ k b R O V B d w0 (acc ++ [(nm, j)]) (w3.setCell ⟨V, 0, none⟩ (.slice (some ⟨g, 0, none⟩) (acc.length + 1) cap)) := by
  have hV := q.lV; have ht := q.top; have hs1 := h1.size; have hb := q.lb; have hsA := hA.size; have hs4 := h4.size; have hR := q.lR; have hO := q.lO; have ho := q.old; have hoB := q.oldB
  have nV := q.nV; have nRV := q.nRV; have nOV := q.nOV; have nR := q.nR; have nO := q.nO
  have hslB := fun g hg => (World.ownsRow.lt hrow g hg)
  have nsl : ∀ x, x < B → ¬ sl.ownBlock = some x := fun x hx e => by have := (hslB _ e).1; omega
  have K1 : Kept (fun x => x = b ∨ sl.ownBlock = some x) w w3 :=
    ((Kept.of_grown1 h1).trans (T := fun x => w1.heap.size ≤ x) (Kept.of_below hA) (S := (· = b)) (fun x hx e => by omega)).mono (T := fun x => x = b ∨ sl.ownBlock = some x) (fun _ _ e => Or.inl e) |>.trans (Kept.of_grown h4) (fun x _ e => Or.inr e)
  have KV : Kept (· = V) w3 (w3.setCell ⟨V, 0, none⟩ (.slice (some ⟨g, 0, none⟩) (acc.length + 1) cap)) := Kept.of_grown1 (grown_set _ _ _ _)
  have cV3 : w3.cell? ⟨V, 0, none⟩ = some sl := K1.cell hsl (fun h => h.elim nV (nsl V hV))
  have fV3 : w3.frozen? ⟨V, 0, none⟩ = false := K1.frozen (a := ⟨V, 0, none⟩) (show V < _ by omega) q.fV (fun h => h.elim nV (nsl V hV))
  have KK : Kept (fun x => x = b ∨ w0.heap.size ≤ x) w0 (w3.setCell ⟨V, 0, none⟩ (.slice (some ⟨g, 0, none⟩) (acc.length + 1) cap)) :=
    ((Kept.of_grown1 q.kept).mono (T := fun x => x = b ∨ w0.heap.size ≤ x) (fun _ _ e => Or.inl e)).trans K1 (fun x hx e => e.elim Or.inl (fun e => Or.inr (by have := (hslB _ e).1; omega))) |>.trans KV (fun x hx e => by omega)
  refine ⟨q.lR, q.lO, q.lV, q.lb, q.nR, q.nO, q.nV, q.nRV, q.nOV, by simp; omega, q.old, q.oldB, ?_, ?_, ?_, ?_, .slice (some ⟨g, 0, none⟩) (acc.length + 1) cap, us ++ [(nm, v)], ?_, ?_, ?_⟩
  · exact KV.cell (K1.cell q.cR (fun h => h.elim nR (nsl R hR))) nRV
  · exact KV.cell (K1.cell q.cO (fun h => h.elim nO (nsl O hO))) nOV
  · simp [go_sem, fV3]
  · exact (KK.mono (T := (· = b)) (fun x hx e => by omega)).grown
  · simp [go_sem, cV3]
  · rw [List.length_append, show mcells (us ++ [(nm, v)]) = mcells us ++ [str nm, v] by simp [mcells]]; exact KV.row h3 (fun x hx e => by have := (World.ownsRow.lt h3 x hx).1; omega)
  · refine all2_snoc ?_ ?_
    · have hj1 := repJ.inb k hj
      have K3 : Kept (fun x => x = V ∨ sl.ownBlock = some x ∨ w1.heap.size ≤ x) w1 (w3.setCell ⟨V, 0, none⟩ (.slice (some ⟨g, 0, none⟩) (acc.length + 1) cap)) :=
        (((Kept.of_below hA).mono (T := fun x => x = V ∨ sl.ownBlock = some x ∨ w1.heap.size ≤ x) (fun _ _ e => Or.inr (Or.inr e))).trans (Kept.of_grown h4) (fun x _ e => Or.inr (Or.inl e))).trans KV (fun x _ e => Or.inl e)
      refine ⟨rfl, repJ.mono k (repJ.kept k hj1 K3 ?_) ?_⟩
      · rintro x ⟨e1, e2⟩ (e | e | e)
        · omega
        · have := (hslB _ e).2; omega
        · omega
      · rintro x ⟨e1, e2⟩
        refine ⟨by omega, fun e => ?_⟩
        simp [Value.ownBlock] at e
        subst e
        rcases h5 with e | e
        · have := (hslB _ e).2; omega
        · omega
    · refine all2_mono (fun u i hr => ?_) hall
      refine ⟨hr.1, repJ.mono k (repJ.kept k (repJ.kept k (repJ.inb k hr.2) K1 ?_) KV ?_) ?_⟩
      · rintro x ⟨⟨e1, e2⟩, e3⟩ (e | e)
        · omega
        · exact e2 e
      · rintro x ⟨⟨e1, e2⟩, e3⟩ e
        omega
      · rintro x ⟨⟨e1, e2⟩, e3⟩
        refine ⟨e1, fun e => ?_⟩
        simp [Value.ownBlock] at e
        subst e
        rcases h5 with e | e
        · exact e2 e
        · omega

set_option maxHeartbeats 2000000 in
set_option maxRecDepth 20000 in
theorem objOne (k b R O V B : Nat) (d : Int) (w0 : World) (IH : ValAt k) (hd : d + k = 7) (hd0 : 0 ≤ d) (acc : List (List UInt8 × J)) (s : List UInt8) (w : World) (q : OQ k b R O V B d w0 acc w) (h : rdr w b s) (hs : acc.length + s.length ≤ 4000) :
    Calls Tryd.prog 154 #[.pointer (some ⟨R, 0, none⟩), .pointer (some ⟨V, 0, none⟩), .pointer (some ⟨O, 0, none⟩)] w
      (onePost b (OQ k b R O V B d w0) (fun w' => w0.grownBy w' (some b)) acc (memOf (val k) s)) := by
  have cR0 := q.cR
  go_enter Tryd.func154, Tryd.ntmps154
  go_wp2_with fail
  refine (take_any b s [34] w h).mono ?_
  rintro e w1 ⟨rfl, r1, g1⟩
  replace q := q.grown g1
  clear g1 h cR0
  cases h1 : tak [34] s with
  | none =>
    have HM : Hid (memOf (val k) s = none) := by show _ = _; unfold memOf; rw [h1]
    go_wp2_with (go_at_call 115; refine (need_no _).mono ?_; rintro e w' ⟨rfl, rfl⟩)
    refine ⟨rfl, ?_⟩
    rw [HM.out]
    exact ⟨rfl, q.kept⟩
  | some s1 =>
    have hl1 := tak_len h1
    simp only [List.length_cons, List.length_nil] at hl1
    rw [taken_some h1] at r1
    have cR1 := q.cR
    go_wp2_with (go_at_call 115; refine (need_ok _).mono ?_; rintro e w' ⟨rfl, rfl⟩)
    refine (readString_any b s1 _ r1 (by omega)).mono ?_
    cases h2 : strOf s1 with
    | none =>
      rintro e w2 ⟨rfl, g2⟩
      have HM : Hid (memOf (val k) s = none) := by show _ = _; unfold memOf; rw [h1]; simp only; rw [h2]
      go_wp2
      refine ⟨rfl, ?_⟩
      rw [HM.out]
      exact ⟨rfl, (q.grown g2).kept⟩
    | some p =>
      obtain ⟨nm, s2⟩ := p
      rintro e w2 ⟨rfl, r2, g2⟩
      have hl2 := strOf_len _ s1 (Nat.le_refl _) _ _ h2
      replace q := q.grown g2
      clear g2 r1 cR1
      have cR2 := q.cR
      go_wp2_with fail
      refine (take_any b s2 [58] w2 r2).mono ?_
      rintro e w3 ⟨rfl, r3, g3⟩
      replace q := q.grown g3
      clear g3 r2 cR2
      cases h3 : tak [58] s2 with
      | none =>
        have HM : Hid (memOf (val k) s = none) := by show _ = _; unfold memOf; rw [h1]; simp only; rw [h2]; simp only; rw [h3]
        go_wp2_with (go_at_call 115; refine (need_no _).mono ?_; rintro e w' ⟨rfl, rfl⟩)
        refine ⟨rfl, ?_⟩
        rw [HM.out]
        exact ⟨rfl, q.kept⟩
      | some s3 =>
        have hl3 := tak_len h3
        simp only [List.length_cons, List.length_nil] at hl3
        rw [taken_some h3] at r3
        have cR := q.cR; have cO := q.cO; have fV := q.fV
        obtain ⟨sl, us, cV, hrow, hall⟩ := q.vals
        have lV := q.lV; have nV := q.nV; have nR := q.nR; have nO := q.nO; have top := q.top
        have RV : Hid (_) := IH b s3
        have HM : Hid (memOf (val k) s = (val k s3).map (fun p => ((nm, p.1), p.2))) := by show _ = _; unfold memOf; rw [h1]; simp only; rw [h2]; simp only; rw [h3]
        go_wp2_with (go_at_call 115; refine (need_ok _).mono ?_; rintro e w' ⟨rfl, rfl⟩)
        cases hv : val k s3 with
        | none =>
          rw [hv] at RV HM
          refine wp_region_held (S := fun w' => w'.cell? ⟨V, 0, none⟩ = some sl ∧ w'.cell? ⟨R, 0, none⟩ = some (.pointer (some ⟨b, 0, none⟩)) ∧ w'.cell? ⟨O, 0, none⟩ = some (.int .i64 d)) (by kernel_rfl) ?_
          refine wpAnyH_take (i := 0) (v := sl) rfl (by kernel_rfl) (by kernel_rfl) (by kernel_rfl) (fun _ _ _ h => h) (Or.inl ⟨by rfl, ?_⟩) ⟨cV, cR, cO⟩ ?_
          · intro w hSw
            obtain ⟨s1, s2, s3⟩ := hSw
            go_simp
          simp only [Act.put, List.setIfInBounds_toArray]
          refine wpAnyH_take (i := 1) (v := str nm) rfl (by kernel_rfl) (by kernel_rfl) (by kernel_rfl) (fun _ _ _ h => h) (Or.inl ⟨by rfl, ?_⟩) ⟨cV, cR, cO⟩ ?_
          · intro w hSw
            obtain ⟨s1, s2, s3⟩ := hSw
            go_simp
          simp only [Act.put]
          refine wpAnyH_take (i := 2) (v := .pointer (some ⟨b, 0, none⟩)) rfl (by kernel_rfl) (by kernel_rfl) (by kernel_rfl) (fun _ _ _ h => h) (Or.inl ⟨by rfl, ?_⟩) ⟨cV, cR, cO⟩ ?_
          · intro w hSw
            obtain ⟨s1, s2, s3⟩ := hSw
            go_simp
          simp only [Act.put]
          refine wpAnyH_take (i := 3) (v := .int .i64 d) rfl (by kernel_rfl) (by kernel_rfl) (by kernel_rfl) (fun _ _ _ h => h) (Or.inl ⟨by rfl, ?_⟩) ⟨cV, cR, cO⟩ ?_
          · intro w hSw
            obtain ⟨s1, s2, s3⟩ := hSw
            go_simp
          simp only [Act.put]
          refine wpAnyH_ready (rs := [4]) (by kernel_rfl) (by simp) ?_
          refine AllReadyH.cons rfl (fun K hK => ?_) AllReadyH.nil
          go_simp
          refine (RV.out w3.drew d r3.drew (by omega) hd0 hd).mono ?_
          rintro e w6 ⟨rfl, g6⟩
          refine ⟨rfl, ?_⟩
          rw [HM.out]
          exact ⟨rfl, grown_trans q.kept (grown_drew g6)⟩
        | some p =>
          obtain ⟨j, r⟩ := p
          rw [hv] at RV HM
          have OB : ∀ x, x < B → some x ≠ sl.ownBlock := fun x hx e => by have := (World.ownsRow.lt hrow x e.symm).1; omega
          have lR := q.lR; have lO := q.lO
          have cV0 : w3.cell? ⟨V, 0, none⟩ = some sl := cV
          have HL : acc.length ≤ 1000000000 := by omega
          have nRV := q.nRV; have nOV := q.nOV
          go_region_law
            (first
              | (go_simp; go_at_call 113; refine (RV.out _ d (by first | exact r3 | exact r3.drew) (by omega) hd0 hd).mono ?_; rintro e w6 ⟨v, rfl, r6, g6, j6⟩; obtain ⟨vt, vx, rfl⟩ := repJ.iface k j6; replace g6 := grown_drew g6; have z6 := g6.size; have k6 := Kept.of_grown1 g6; replace fV := k6.frozen (a := ⟨V, 0, none⟩) (show V < w3.heap.size by omega) fV nV; replace cV := g6.cell cV (by simp; omega); replace cR := g6.cell cR (by simp; omega); replace cO := g6.cell cO (by simp; omega); have cVa := cell_alloc cV (.cells #[str nm, .iface vt vx] 164); have row6 := (Kept.of_grown1 g6).row hrow (fun x hx e => absurd (World.ownsRow.lt hrow x hx).1 (by have := q.lb; omega)))
              | (refine mapp_step rfl _ _ rfl B acc.length (mcells us) nm (.iface vt vx) rfl _ rfl (row6.alloc _) _ rfl _ (heap_alloc_new _ _) HL (by simp; omega) ?_; intro g cap w8 row8 g8 h8; have cV8 := g8.cell (cell_alloc cV _) (OB V lV); have fV8 := (Kept.of_grown g8).frozen (a := ⟨V, 0, none⟩) (by simp; omega) ((Kept.of_grown (World.grownBy_alloc _ _ none)).frozen (a := ⟨V, 0, none⟩) (show V < w6.heap.size by omega) fV (by simp)) (fun e => OB V lV e.symm)))
          all_goals go_end0
          all_goals rw [HM.out]
          all_goals exact ⟨rfl, (Kept.of_grown1 (grown_set _ _ _ _)).rdr ((Kept.of_grown g8).rdr ((Kept.of_grown (World.grownBy_alloc _ _ none)).rdr r6 (by simp)) (fun e => OB b q.lb e.symm)) (fun e => nV e.symm), q.push cV0 hall hrow g6 j6 ((Below.refl _ _).alloc (Nat.le_refl _) _) row8 g8 h8⟩
end Go.Proofs.YtinnliapfdpfpaaDoor.P
