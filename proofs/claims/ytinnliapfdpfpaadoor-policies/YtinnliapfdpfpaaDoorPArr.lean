/-
  THE READER OF JSON: what stands in an array.
-/
import Derived.Test.YtinnliapfdpfpaaDoorPList
import Derived.Deep.RegionHeld3
import Derived.Deep.RegionLaw
namespace Go.Proofs.YtinnliapfdpfpaaDoor.P
open Go.RowKit

theorem Tryd.infoV : (Tryd.prog.info? 94).map (fun i => (i.zero, i.size, i.bytes)) = some (some .nilIface, 1, 16) := by kernel_rfl
theorem vapp_step {w : World} {ops : Array Oper} {o : Oper} {a : Act} {K : Act → World → Prop} {Q : Exit → Act → World → Prop} {E : Prop} (hgd : o.guard = none) (s x : Operand)
    (ho : o.op = .call { callee := .builtin .append, args := #[s, x], argTypes := #[134, 134] })
    (B n : Nat) (us : List Value) (u : Value) (hu : u.oneCell' = true) (v : Value) (hs : a.eval s = v) (hown : w.ownsRow B 94 1 v n us) (H : Nat) (hx : a.eval x = .slice (some ⟨H, 0, none⟩) 1 1)
    (fr : Nat × Nat) (hblk : w.heap[H]? = some (.cells #[u] 94 fr)) (hlen : n ≤ 1000000000) (hB : B ≤ w.heap.size)
    (h : ∀ g cap w', w'.ownsRow B 94 1 (.slice (some ⟨g, 0, none⟩) (n + 1) cap) (n + 1) (us ++ [u]) → w.grownBy w' v.ownBlock → (v.ownBlock = some g ∨ g = w.heap.size) → K (a.put o.dst (.slice (some ⟨g, 0, none⟩) (n + 1) cap)) w') :
    if Region.wanted o (yielded ops a.tmps) = true then Oper.wp Tryd.prog o a w K Q else E := by
  obtain ⟨i0, hi, hz0, hz1, hz2⟩ := info_parts Tryd.infoV
  refine step_append_lies _ hgd s x 134 ho B 94 i0 .nilIface 1 16 Tryd.underlying134 hi hz0 hz1 hz2 rfl (by omega) v n us hs hown ⟨H, 0, none⟩ 1 1 [u] hx (by simp)
    (fun j u hu => World.news_of_block hblk j u (by simpa using hu)) (by intro y hy; simp at hy; subst hy; exact hu) (by omega) (by unfold maxLen; omega) (by omega) hB w.heap.size rfl ?_
  intro g cap w' h1 h2 h3 _
  exact h g cap w' h1 h2 h3

def valPost (k : Nat) (w : World) (b : Nat) (o : Option (J × List UInt8)) (e : Ending) (w' : World) : Prop :=
  match o with
  | none => e = .panicked noJ ∧ w.grownBy w' (some b)
  | some (j, r) => ∃ v, e = .returned v ∧ rdr w' b r ∧ w.grownBy w' (some b) ∧ repJ k w' (fun g => w.heap.size ≤ g) v j
def ValAt (k : Nat) : Prop := ∀ (b : Nat) (s : List UInt8) (w : World) (d : Int), rdr w b s → s.length ≤ 4000 → 0 ≤ d → d + k = 7 →
  Calls Tryd.prog 113 #[.pointer (some ⟨b, 0, none⟩), .int .i64 d] w (valPost k w b (val k s))
/-- A value is an interface value. -/
theorem repJ.iface : ∀ (k : Nat) {w : World} {P : Nat → Prop} {v : Value} {j : J}, repJ k w P v j → ∃ t x, v = .iface t x
  | 0, _, _, _, _, h => h.elim
  | _ + 1, _, _, _, .str _, h => ⟨_, _, h.1⟩
  | _ + 1, _, _, _, .bool _, h => ⟨_, _, h⟩
  | _ + 1, _, _, _, .null, h => ⟨_, _, h⟩
  | _ + 1, _, _, _, .arr _, ⟨_, _, h1, _⟩ => ⟨_, _, h1⟩
  | _ + 1, _, _, _, .obj _, ⟨_, _, h1, _⟩ => ⟨_, _, h1⟩

/-- What holds of the variables of readArray. -/
structure AQ (k b R O V B : Nat) (d : Int) (w0 : World) (acc : List J) (w : World) : Prop where
  lR : R < B
  lO : O < B
  lV : V < B
  lb : b < B
  nR : ¬ R = b
  nO : ¬ O = b
  nV : ¬ V = b
  nRV : ¬ R = V
  nOV : ¬ O = V
  top : B ≤ w.heap.size
  old : w0.heap.size ≤ V
  oldB : w0.heap.size ≤ B
  cR : w.cell? ⟨R, 0, none⟩ = some (.pointer (some ⟨b, 0, none⟩))
  cO : w.cell? ⟨O, 0, none⟩ = some (.int .i64 d)
  fV : w.frozen? ⟨V, 0, none⟩ = false
  kept : w0.grownBy w (some b)
  vals : ∃ sl us, w.cell? ⟨V, 0, none⟩ = some sl ∧ w.ownsRow B 94 1 sl acc.length us ∧ all2 (repJ k w (fun g => B ≤ g ∧ sl.ownBlock ≠ some g)) us acc
theorem AQ.grown {k b R O V B : Nat} {d : Int} {w0 : World} {acc : List J} {w w' : World} (q : AQ k b R O V B d w0 acc w) (h : w.grownBy w' (some b)) : AQ k b R O V B d w0 acc w' := by
  have K := Kept.of_grown1 h
  obtain ⟨sl, us, h1, h2, h3⟩ := q.vals
  have hV := q.lV; have ht := q.top; have hs := h.size; have hb := q.lb
  refine ⟨q.lR, q.lO, q.lV, q.lb, q.nR, q.nO, q.nV, q.nRV, q.nOV, by omega, q.old, q.oldB, K.cell q.cR q.nR, K.cell q.cO q.nO, K.frozen (a := ⟨V, 0, none⟩) (show V < _ by omega) q.fV q.nV, grown_trans q.kept h, sl, us, K.cell h1 q.nV, ?_, ?_⟩
  · exact K.row h2 (fun g hg e => by have := (World.ownsRow.lt h2 g hg).1; omega)
  · exact all2_mono (fun _ _ hr => repJ.kept k hr K (fun g hg e => by omega)) h3
theorem AQ.push {k b R O V B : Nat} {d : Int} {w0 : World} {acc : List J} {w w1 wA w3 : World} (q : AQ k b R O V B d w0 acc w) {sl : Value} {us : List Value} (hsl : w.cell? ⟨V, 0, none⟩ = some sl)
    (hall : all2 (repJ k w (fun g => B ≤ g ∧ sl.ownBlock ≠ some g)) us acc) (hrow : w.ownsRow B 94 1 sl acc.length us)
    {v : Value} {j : J} (h1 : w.grownBy w1 (some b)) (hj : repJ k w1 (fun g => w.heap.size ≤ g) v j) (hA : Below w1.heap.size w1 wA) {g cap : Nat}
    (h3 : w3.ownsRow B 94 1 (.slice (some ⟨g, 0, none⟩) (acc.length + 1) cap) (acc.length + 1) (us ++ [v])) (h4 : wA.grownBy w3 sl.ownBlock) (h5 : sl.ownBlock = some g ∨ g = wA.heap.size) :
    AQ k b R O V B d w0 (acc ++ [j]) (w3.setCell ⟨V, 0, none⟩ (.slice (some ⟨g, 0, none⟩) (acc.length + 1) cap)) := by
  have hV := q.lV; have ht := q.top; have hs1 := h1.size; have hb := q.lb; have hsA := hA.size; have hs4 := h4.size; have hR := q.lR; have hO := q.lO; have ho := q.old; have hoB := q.oldB
  have nV := q.nV; have nRV := q.nRV; have nOV := q.nOV; have nR := q.nR; have nO := q.nO
  have hslB := fun g hg => (World.ownsRow.lt hrow g hg)
  have nsl : ∀ x, x < B → ¬ sl.ownBlock = some x := fun x hx e => by have := (hslB _ e).1; omega
  have K1 : Kept (fun x => x = b ∨ sl.ownBlock = some x) w w3 :=
    ((Kept.of_grown1 h1).trans (T := fun x => w1.heap.size ≤ x) (Kept.of_below hA) (S := (· = b)) (fun x hx e => by omega)).mono (T := fun x => x = b ∨ sl.ownBlock = some x) (fun _ _ e => Or.inl e) |>.trans (Kept.of_grown h4) (fun x _ e => Or.inr e)
  have KV : Kept (· = V) w3 (w3.setCell ⟨V, 0, none⟩ (.slice (some ⟨g, 0, none⟩) (acc.length + 1) cap)) := Kept.of_grown1 (grown_set _ _ _ _)
  have cV3 : w3.cell? ⟨V, 0, none⟩ = some sl := K1.cell hsl (fun h => h.elim nV (nsl V hV))
  have fV3 : w3.frozen? ⟨V, 0, none⟩ = false := K1.frozen (a := ⟨V, 0, none⟩) (show V < _ by omega) q.fV (fun h => h.elim nV (nsl V hV))
  have KK : Kept (fun x => x = b ∨ w0.heap.size ≤ x) w0 (w3.setCell ⟨V, 0, none⟩ (.slice (some ⟨g, 0, none⟩) (acc.length + 1) cap)) :=
    ((Kept.of_grown1 q.kept).mono (T := fun x => x = b ∨ w0.heap.size ≤ x) (fun _ _ e => Or.inl e)).trans K1 (fun x hx e => e.elim Or.inl (fun e => Or.inr (by have := (hslB _ e).1; omega))) |>.trans KV (fun x hx e => by omega)
  refine ⟨q.lR, q.lO, q.lV, q.lb, q.nR, q.nO, q.nV, q.nRV, q.nOV, by simp; omega, q.old, q.oldB, ?_, ?_, ?_, ?_, .slice (some ⟨g, 0, none⟩) (acc.length + 1) cap, us ++ [v], ?_, ?_, ?_⟩
  · exact KV.cell (K1.cell q.cR (fun h => h.elim nR (nsl R hR))) nRV
  · exact KV.cell (K1.cell q.cO (fun h => h.elim nO (nsl O hO))) nOV
  · simp [go_sem, fV3]
  · exact (KK.mono (T := (· = b)) (fun x hx e => by omega)).grown
  · simp [go_sem, cV3]
  · rw [List.length_append]; exact KV.row h3 (fun x hx e => by have := (World.ownsRow.lt h3 x hx).1; omega)
  · refine all2_snoc ?_ ?_
    · have hj1 := repJ.inb k hj
      have K3 : Kept (fun x => x = V ∨ sl.ownBlock = some x ∨ w1.heap.size ≤ x) w1 (w3.setCell ⟨V, 0, none⟩ (.slice (some ⟨g, 0, none⟩) (acc.length + 1) cap)) :=
        (((Kept.of_below hA).mono (T := fun x => x = V ∨ sl.ownBlock = some x ∨ w1.heap.size ≤ x) (fun _ _ e => Or.inr (Or.inr e))).trans (Kept.of_grown h4) (fun x _ e => Or.inr (Or.inl e))).trans KV (fun x _ e => Or.inl e)
      refine repJ.mono k (repJ.kept k hj1 K3 ?_) ?_
      · rintro x ⟨e1, e2⟩ (e | e | e)
        · omega
        · have := (hslB _ e).2; omega
        · omega
      · rintro x ⟨e1, e2⟩
        refine ⟨by omega, fun e => ?_⟩
        simp [Value.ownBlock] at e
        subst e
        rcases h5 with e | e
        · have := (hslB _ e).2; omega
        · omega
    · refine all2_mono (fun u i hr => ?_) hall
      refine repJ.mono k (repJ.kept k (repJ.kept k (repJ.inb k hr) K1 ?_) KV ?_) ?_
      · rintro x ⟨⟨e1, e2⟩, e3⟩ (e | e)
        · omega
        · exact e2 e
      · rintro x ⟨⟨e1, e2⟩, e3⟩ e
        omega
      · rintro x ⟨⟨e1, e2⟩, e3⟩
        refine ⟨e1, fun e => ?_⟩
        simp [Value.ownBlock] at e
        subst e
        rcases h5 with e | e
        · exact e2 e
        · omega

theorem cell_alloc {w : World} {p : Addr} {v : Value} (h : w.cell? p = some v) (o : Obj) : (w.alloc o).cell? p = some v :=
  (World.grownBy_alloc w o none).cell h (by simp)
theorem heap_new_eq {w : World} {c c' : Array Value} {t : TypeId} (h : c = c') : (w.alloc (.cells c t)).heap[w.heap.size]? = some (.cells c' t (0, 0)) := by
  subst h; exact heap_alloc_new w _

theorem grown_drew {w w' : World} {r : Option Nat} (h : w.drew.grownBy w' r) : w.grownBy w' r := ⟨h.os, h.tape, h.output, h.size, h.block⟩
theorem rdr.drew {w : World} {b : Nat} {l : List UInt8} (h : rdr w b l) : rdr w.drew b l := h
theorem AQ.drew {k b R O V B : Nat} {d : Int} {w0 : World} {acc : List J} {w : World} (q : AQ k b R O V B d w0 acc w) : AQ k b R O V B d w0 acc w.drew :=
  q.grown ⟨rfl, rfl, rfl, Nat.le_refl _, fun _ _ _ => rfl⟩
theorem below_drew (w : World) : Below w.heap.size w w.drew := ⟨rfl, rfl, rfl, Nat.le_refl _, fun _ _ => rfl⟩
set_option maxHeartbeats 1000000 in
set_option maxRecDepth 20000 in
theorem arrOne (k b R O V B : Nat) (d : Int) (w0 : World) (IH : ValAt k) (hd : d + k = 7) (hd0 : 0 ≤ d) (acc : List J) (s : List UInt8) (w : World) (q : AQ k b R O V B d w0 acc w) (h : rdr w b s) (hs : acc.length + s.length ≤ 4000) :
    Calls Tryd.prog 155 #[.pointer (some ⟨V, 0, none⟩), .pointer (some ⟨R, 0, none⟩), .pointer (some ⟨O, 0, none⟩)] w
      (onePost b (AQ k b R O V B d w0) (fun w' => w0.grownBy w' (some b)) acc (val k s)) := by
  have cR := q.cR; have cO := q.cO; have fV := q.fV
  obtain ⟨sl, us, cV, hrow, hall⟩ := q.vals
  have lV := q.lV; have nV := q.nV; have nR := q.nR; have nO := q.nO; have top := q.top
  have RV : Hid (_) := IH b s
  cases hv : val k s with
  | none =>
    rw [hv] at RV
    go_enter Tryd.func155, Tryd.ntmps155
    go_wp2_with fail
    refine wp_region_held (S := fun w' => w'.cell? ⟨V, 0, none⟩ = some sl ∧ w'.cell? ⟨R, 0, none⟩ = some (.pointer (some ⟨b, 0, none⟩)) ∧ w'.cell? ⟨O, 0, none⟩ = some (.int .i64 d)) (by kernel_rfl) ?_
    refine wpAnyH_take (i := 0) (v := sl) rfl (by kernel_rfl) (by kernel_rfl) (by kernel_rfl) (fun _ _ _ h => h) (Or.inl ⟨by rfl, ?_⟩) ⟨cV, cR, cO⟩ ?_
    · intro w hSw
      obtain ⟨s1, s2, s3⟩ := hSw
      go_simp
    simp only [Act.put, List.setIfInBounds_toArray]
    refine wpAnyH_take (i := 1) (v := .pointer (some ⟨b, 0, none⟩)) rfl (by kernel_rfl) (by kernel_rfl) (by kernel_rfl) (fun _ _ _ h => h) (Or.inl ⟨by rfl, ?_⟩) ⟨cV, cR, cO⟩ ?_
    · intro w hSw
      obtain ⟨s1, s2, s3⟩ := hSw
      go_simp
    simp only [Act.put]
    refine wpAnyH_take (i := 2) (v := .int .i64 d) rfl (by kernel_rfl) (by kernel_rfl) (by kernel_rfl) (fun _ _ _ h => h) (Or.inl ⟨by rfl, ?_⟩) ⟨cV, cR, cO⟩ ?_
    · intro w hSw
      obtain ⟨s1, s2, s3⟩ := hSw
      go_simp
    simp only [Act.put]
    refine wpAnyH_ready (rs := [3]) (by kernel_rfl) (by simp) ?_
    refine AllReadyH.cons rfl (fun K hK => ?_) AllReadyH.nil
    go_simp
    refine (RV.out w.drew d h.drew (by omega) hd0 hd).mono ?_
    rintro e w6 ⟨rfl, g6⟩
    exact ⟨rfl, rfl, grown_trans q.kept (grown_drew g6)⟩
  | some p =>
    obtain ⟨j, r⟩ := p
    rw [hv] at RV
    go_enter Tryd.func155, Tryd.ntmps155
    go_wp2_with fail
    have OB : ∀ x, x < B → some x ≠ sl.ownBlock := fun x hx e => by have := (World.ownsRow.lt hrow x e.symm).1; omega
    have lR := q.lR; have lO := q.lO
    have cV0 : w.cell? ⟨V, 0, none⟩ = some sl := cV
    have HL : acc.length ≤ 1000000000 := by omega
    have nRV := q.nRV; have nOV := q.nOV
    go_region_law
      (first
        | (go_simp; go_at_call 113; refine (RV.out _ d (by first | exact h | exact h.drew) (by omega) hd0 hd).mono ?_; rintro e w6 ⟨v, rfl, r6, g6, j6⟩; obtain ⟨vt, vx, rfl⟩ := repJ.iface k j6; replace g6 := grown_drew g6; have z6 := g6.size; have k6 := Kept.of_grown1 g6; replace fV := k6.frozen (a := ⟨V, 0, none⟩) (show V < w.heap.size by omega) fV nV; replace cV := g6.cell cV (by simp; omega); replace cR := g6.cell cR (by simp; omega); replace cO := g6.cell cO (by simp; omega); have cVa := cell_alloc cV (.cells #[.iface vt vx] 94); have row6 := (Kept.of_grown1 g6).row hrow (fun x hx e => absurd (World.ownsRow.lt hrow x hx).1 (by have := q.lb; omega)))
        | (refine vapp_step rfl _ _ rfl B acc.length us (.iface vt vx) rfl _ rfl (row6.alloc _) _ rfl _ (heap_alloc_new _ _) HL (by simp; omega) ?_; intro g cap w8 row8 g8 h8; have cV8 := g8.cell (cell_alloc cV _) (OB V lV); have fV8 := (Kept.of_grown g8).frozen (a := ⟨V, 0, none⟩) (by simp; omega) ((Kept.of_grown (World.grownBy_alloc _ _ none)).frozen (a := ⟨V, 0, none⟩) (show V < w6.heap.size by omega) fV (by simp)) (fun e => OB V lV e.symm)))
    all_goals go_end0
    all_goals exact ⟨rfl, (Kept.of_grown1 (grown_set _ _ _ _)).rdr ((Kept.of_grown g8).rdr ((Kept.of_grown (World.grownBy_alloc _ _ none)).rdr r6 (by simp)) (fun e => OB b q.lb e.symm)) (fun e => nV e.symm), q.push cV0 hall hrow g6 j6 ((Below.refl _ _).alloc (Nat.le_refl _) _) row8 g8 h8⟩
end Go.Proofs.YtinnliapfdpfpaaDoor.P
