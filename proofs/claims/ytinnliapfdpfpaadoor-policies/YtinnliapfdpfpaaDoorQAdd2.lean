/-
  THE DOCUMENT's READER OF JSON: add.
-/
import Derived.Test.YtinnliapfdpfpaaDoorQAdd
namespace Go.Proofs.YtinnliapfdpfpaaDoor.P
open Go.RowKit

theorem qcell_alloc {w : World} {p : Addr} {v : Value} (h : w.cell? p = some v) (o : Obj) : (w.alloc o).cell? p = some v :=
  (World.grownBy_alloc w o none).cell h (by simp)
theorem Kept.false_alloc (w : World) (o : Obj) : Kept (fun _ => False) w (w.alloc o) := (Kept.refl _ w).alloc o
theorem nodeAt.slices {w : World} {P : Nat → Prop} {u : RawN} {nd : Nd} (h : nodeAt w P u nd) : ∃ k t a1 n1 c1 a2 n2 c2, u = (k, t, .slice a1 n1 c1, .slice a2 n2 c2) := by
  obtain ⟨k, t, v1, v2⟩ := u
  rcases h.names.2 with ⟨e1, _⟩ | ⟨g1, cap1, cur1, e1, _⟩ <;> rcases h.kids.2 with ⟨e2, _⟩ | ⟨g2, cap2, cur2, e2, _⟩ <;> simp at e1 e2 <;> subst e1 e2
  · exact ⟨k, t, none, 0, 0, none, 0, 0, rfl⟩
  · exact ⟨k, t, none, 0, 0, _, _, _, rfl⟩
  · exact ⟨k, t, _, _, _, none, 0, 0, rfl⟩
  · exact ⟨k, t, _, _, _, _, _, _, rfl⟩
def addPost (X : Nat → Prop) (b : Nat) (s : List UInt8) (p : Nat) (bad : Bool) (L : List Nd) (nd : Nd) (w : World) (e : Ending) (w' : World) : Prop :=
  e = .returned (.int .i64 (L.length : Int)) ∧ TS X b s p bad (L ++ [nd]) w' ∧ Kept (fun g => ¬ X g) w w'
set_option maxHeartbeats 4000000 in
set_option maxRecDepth 20000 in
theorem tadd_any (X : Nat → Prop) (b : Nat) (s : List UInt8) (p : Nat) (bad : Bool) (L : List Nd) (k : Nat) (t : List UInt8) (a1 : Option Addr) (n1 c1 : Nat) (a2 : Option Addr) (n2 c2 : Nat) (nd : Nd) (w : World)
    (hX : ∀ g, X g → g < w.heap.size) (h : TS (fun g => X g ∨ (Value.slice a1 n1 c1).ownBlock = some g ∨ (Value.slice a2 n2 c2).ownBlock = some g) b s p bad L w) (hn : nodeAt w (fun g => ¬ X g) (k, t, .slice a1 n1 c1, .slice a2 n2 c2) nd) (hl : L.length ≤ 1000000) :
    Calls Tryd.prog 124 #[.pointer (some ⟨b, 0, none⟩), .agg #[.int .u8 (k : Int), str t, .slice a1 n1 c1, .slice a2 n2 c2]] w (addPost X b s p bad L nd w) := by
  have nX : ¬ X b := fun e => h.nX (Or.inl e)
  obtain ⟨v, us, hT, hrow, hv, hall⟩ := h.vals
  have hb := hT.lt
  have nb := h.nX
  have o : Obj := .cells #[.int .u8 (k : Int), str t, .slice a1 n1 c1, .slice a2 n2 c2] 104
  have KA : Kept (fun _ => False) w (w.alloc (.cells #[.int .u8 (k : Int), str t, .slice a1 n1 c1, .slice a2 n2 c2] 104)) := Kept.false_alloc _ _
  have TA := hT.kept KA (fun e => e)
  have rowA := KA.row hrow (fun g hg e => e)
  have c3 := TA.c3; have f3 := TA.f3
  have d0 : (w.alloc (.cells #[.int .u8 (k : Int), str t, .slice a1 n1 c1, .slice a2 n2 c2] 104)).cell? ⟨w.heap.size, 0, none⟩ = some (.int .u8 (k : Int)) := by simp [go_sem]
  have d1 : (w.alloc (.cells #[.int .u8 (k : Int), str t, .slice a1 n1 c1, .slice a2 n2 c2] 104)).cell? ⟨w.heap.size, 1, none⟩ = some (str t) := by simp [go_sem]
  have d2 : (w.alloc (.cells #[.int .u8 (k : Int), str t, .slice a1 n1 c1, .slice a2 n2 c2] 104)).cell? ⟨w.heap.size, 2, none⟩ = some (.slice a1 n1 c1) := by simp [go_sem]
  have d3 : (w.alloc (.cells #[.int .u8 (k : Int), str t, .slice a1 n1 c1, .slice a2 n2 c2] 104)).cell? ⟨w.heap.size, 3, none⟩ = some (.slice a2 n2 c2) := by simp [go_sem]
  have hz : b < (w.alloc (.cells #[.int .u8 (k : Int), str t, .slice a1 n1 c1, .slice a2 n2 c2] 104)).heap.size := by simp; omega
  have PUSH : ∀ {wA w3 : World} {g cap : Nat}, Below w.heap.size w wA → w3.ownsRow 0 104 4 (.slice (some ⟨g, 0, none⟩) (L.length + 1) cap) (L.length + 1) (ncells us ++ ncell (k, t, .slice a1 n1 c1, .slice a2 n2 c2)) → wA.grownBy w3 v.ownBlock → (v.ownBlock = some g ∨ g = wA.heap.size) →
      TS X b s p bad (L ++ [nd]) (w3.setCell ⟨b, 3, none⟩ (.slice (some ⟨g, 0, none⟩) (L.length + 1) cap)) ∧ Kept (fun g => ¬ X g) w (w3.setCell ⟨b, 3, none⟩ (.slice (some ⟨g, 0, none⟩) (L.length + 1) cap)) := by
    intro wA w3 g cap hA h3 h4 h5
    refine TS.push hX nX hT hrow (fun g hg => ⟨fun e => (hv g hg).1 (Or.inl e), (hv g hg).2⟩) (all2_mono (fun u nd hr => hr.mono (fun g hg => ⟨fun e => hg.1 (Or.inl e), hg.2⟩)) hall) ?_ hA h3 h4 h5
    refine ⟨hn.kind, hn.text, hn.names, hn.kids, fun g e => ⟨hn.pn g e, fun eb => nb (Or.inr (Or.inl (by rw [← eb]; exact e))), fun ev => (hv g ev).1 (Or.inr (Or.inl e))⟩, fun g e => ⟨hn.pk g e, fun eb => nb (Or.inr (Or.inr (by rw [← eb]; exact e))), fun ev => (hv g ev).1 (Or.inr (Or.inr e))⟩⟩
  have HPUSH : Hid (_) := @PUSH
  have HVB : ∀ g, v.ownBlock = some g → g ≠ b := fun g hg => (hv g hg).2
  have bA : Below w.heap.size w (w.alloc (.cells #[.int .u8 (k : Int), str t, .slice a1 n1 c1, .slice a2 n2 c2] 104)) := (Below.refl _ _).alloc (Nat.le_refl _) _
  clear PUSH hall hv hn h nb hrow hX nX hT KA TA o
  go_enter Tryd.func124, Tryd.ntmps124
  go_wp2_with fail
  generalize (w.alloc (.cells #[.int .u8 (k : Int), str t, .slice a1 n1 c1, .slice a2 n2 c2] 104)) = W at *
  have cB := qcell_alloc c3 (.cells #[.int .u8 (k : Int), str t, .slice a1 n1 c1, .slice a2 n2 c2] 104)
  go_region_law
    (refine napp_step rfl _ _ rfl L.length (ncells us) (k, t, .slice a1 n1 c1, .slice a2 n2 c2) rfl rfl _ rfl (by first | exact rowA.alloc _ | exact (World.ownsRow.drew rowA).alloc _) _ rfl _ (heap_alloc_new _ _) (by omega) ?_; intro g cap w8 row8 g8 h8; have cV8 := g8.cell (a := ⟨b, 3, none⟩) (by first | exact qcell_alloc c3 _ | exact cB) (fun e => HVB b e.symm rfl); have fV8 := (Kept.of_grown g8).frozen (a := ⟨b, 3, none⟩) (by simp; omega) ((Kept.of_grown (World.grownBy_alloc _ _ none)).frozen (a := ⟨b, 3, none⟩) (show b < _ by omega) f3 (by simp)) (fun e => HVB b e rfl))
  all_goals go_wp2
  all_goals go_ret
  all_goals obtain ⟨t1, t2⟩ := HPUSH.out (bA.alloc bA.size _).drew row8 g8 h8
  all_goals exact ⟨by simp, t1, t2⟩
end Go.Proofs.YtinnliapfdpfpaaDoor.P
