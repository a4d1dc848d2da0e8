/-
  THE DOCUMENT's READER OF JSON: a node more.
-/
import Derived.Test.YtinnliapfdpfpaaDoorQNode
import Derived.Deep.RegionHeld3
import Derived.Deep.RegionLaw
namespace Go.Proofs.YtinnliapfdpfpaaDoor.P
open Go.RowKit

theorem Tryd.infoN : (Tryd.prog.info? 104).map (fun i => (i.zero, i.size, i.bytes)) = some (some (.agg #[.int .u8 0, .string ⟨#[]⟩, .slice none 0 0, .slice none 0 0]), 4, 72) := by kernel_rfl
theorem napp_step {w : World} {ops : Array Oper} {o : Oper} {a : Act} {K : Act → World → Prop} {Q : Exit → Act → World → Prop} {E : Prop} (hgd : o.guard = none) (s x : Operand)
    (ho : o.op = .call { callee := .builtin .append, args := #[s, x], argTypes := #[105, 105] })
    (n : Nat) (us : List Value) (q : RawN) (h2 : q.2.2.1.oneCell' = true) (h3 : q.2.2.2.oneCell' = true) (v : Value) (hs : a.eval s = v) (hown : w.ownsRow 0 104 4 v n us) (H : Nat) (hx : a.eval x = .slice (some ⟨H, 0, none⟩) 1 1)
    (fr : Nat × Nat) (hblk : w.heap[H]? = some (.cells (ncell q).toArray 104 fr)) (hlen : n ≤ 1000000000)
    (h : ∀ g cap w', w'.ownsRow 0 104 4 (.slice (some ⟨g, 0, none⟩) (n + 1) cap) (n + 1) (us ++ ncell q) → w.grownBy w' v.ownBlock → (v.ownBlock = some g ∨ g = w.heap.size) → K (a.put o.dst (.slice (some ⟨g, 0, none⟩) (n + 1) cap)) w') :
    if Region.wanted o (yielded ops a.tmps) = true then Oper.wp Tryd.prog o a w K Q else E := by
  obtain ⟨i0, hi, hz0, hz1, hz2⟩ := info_parts Tryd.infoN
  refine step_append_lies _ hgd s x 105 ho 0 104 i0 (.agg #[.int .u8 0, .string ⟨#[]⟩, .slice none 0 0, .slice none 0 0]) 4 72 Tryd.underlying105 hi hz0 hz1 hz2 rfl (by omega) v n us hs hown ⟨H, 0, none⟩ 1 1 (ncell q) hx (by simp)
    (fun j u hu => World.news_of_block hblk j u (by simpa using hu)) (by intro y hy; simp at hy; rcases hy with e | e | e | e <;> rw [e] <;> first | exact h2 | exact h3 | rfl) (by omega) (by unfold maxLen; omega) (by omega) (Nat.zero_le _) w.heap.size rfl ?_
  intro g cap w' h1 h2 h3 _
  exact h g cap w' h1 h2 h3
/-- The tree with one node more. -/
theorem TS.push {X : Nat → Prop} {b : Nat} {s : List UInt8} {p : Nat} {bad : Bool} {L : List Nd} {w wA w3 : World} {v : Value} {us : List RawN} (hX : ∀ g, X g → g < w.heap.size) (nX : ¬ X b) (hT : TC b s p bad v w)
    (hrow : w.ownsRow 0 104 4 v L.length (ncells us)) (hv : ∀ g, v.ownBlock = some g → ¬ X g ∧ g ≠ b)
    (hall : all2 (nodeAt w (fun g => ¬ X g ∧ g ≠ b ∧ v.ownBlock ≠ some g)) us L) {u : RawN} {nd : Nd} (hn : nodeAt w (fun g => ¬ X g ∧ g ≠ b ∧ v.ownBlock ≠ some g) u nd)
    (hA : Below w.heap.size w wA) {g cap : Nat} (h3 : w3.ownsRow 0 104 4 (.slice (some ⟨g, 0, none⟩) (L.length + 1) cap) (L.length + 1) (ncells us ++ ncell u)) (h4 : wA.grownBy w3 v.ownBlock) (h5 : v.ownBlock = some g ∨ g = wA.heap.size) :
    TS X b s p bad (L ++ [nd]) (w3.setCell ⟨b, 3, none⟩ (.slice (some ⟨g, 0, none⟩) (L.length + 1) cap)) ∧ Kept (fun g => ¬ X g) w (w3.setCell ⟨b, 3, none⟩ (.slice (some ⟨g, 0, none⟩) (L.length + 1) cap)) := by
  have hb := hT.lt; have sA := hA.size; have s4 := h4.size
  have hvl := fun g hg => (World.ownsRow.lt hrow g hg).2
  have K1 : Kept (fun x => v.ownBlock = some x) w w3 :=
    ((Kept.of_below hA).mono (T := fun x => v.ownBlock = some x) (fun x hx e => by omega)).trans (Kept.of_grown h4) (fun x _ e => e)
  have T3 : TC b s p bad v w3 := hT.kept K1 (fun e => (hv b e).2 rfl)
  have KV : Kept (· = b) w3 (w3.setCell ⟨b, 3, none⟩ (.slice (some ⟨g, 0, none⟩) (L.length + 1) cap)) := Kept.of_grown1 (grown_set _ _ _ _)
  have hg : ¬ X g ∧ g ≠ b := by
    rcases h5 with e | e
    · exact hv g e
    · exact ⟨fun e2 => by have := hX g e2; omega, by omega⟩
  refine ⟨⟨nX, .slice (some ⟨g, 0, none⟩) (L.length + 1) cap, us ++ [u], ?_, ?_, ?_, ?_⟩, ?_⟩
  · obtain ⟨c0, c1, c2, c3, f1, f2, f3, le⟩ := T3
    refine ⟨?_, ?_, ?_, ?_, ?_, ?_, ?_, le⟩ <;> simp [go_sem, c0, c1, c2, c3, f1, f2, f3]
  · rw [List.length_append, show ncells (us ++ [u]) = ncells us ++ ncell u by simp [ncells]]; exact KV.row h3 (fun x hx e => by simp [Value.ownBlock] at hx; subst hx; exact hg.2 e)
  · intro x hx; simp [Value.ownBlock] at hx; subst hx; exact hg
  · have step : ∀ (u : RawN) (nd : Nd), nodeAt w (fun g => ¬ X g ∧ g ≠ b ∧ v.ownBlock ≠ some g) u nd → nodeAt (w3.setCell ⟨b, 3, none⟩ (.slice (some ⟨g, 0, none⟩) (L.length + 1) cap)) (fun x => ¬ X x ∧ x ≠ b ∧ (Value.slice (some ⟨g, 0, none⟩) (L.length + 1) cap).ownBlock ≠ some x) u nd := by
      intro u nd hr
      refine ((hr.inb.kept K1 (fun x hx => hx.1.2.2)).kept KV (fun x hx => hx.1.2.1)).mono (fun x hx => ⟨hx.1.1, hx.1.2.1, fun e => ?_⟩)
      simp [Value.ownBlock] at e
      subst e
      rcases h5 with e | e
      · exact hx.1.2.2 e
      · omega
    exact all2_snoc (step u nd hn) (all2_mono step hall)
  · exact (K1.mono (T := fun g => ¬ X g) (fun x _ e => (hv x e).1)).trans KV (fun x _ e => by subst e; exact nX)
end Go.Proofs.YtinnliapfdpfpaaDoor.P
