/-
  THE DOCUMENT's READER OF JSON: a node in the making, beside the tree.
-/
import Derived.Test.YtinnliapfdpfpaaDoorQRows
namespace Go.Proofs.YtinnliapfdpfpaaDoor.P
open Go.RowKit

/-- The cells of the node in the making. -/
structure NC (N kd : Nat) (vn vk : Value) (w : World) : Prop where
  c0 : w.cell? ⟨N, 0, none⟩ = some (.int .u8 (kd : Int))
  c1 : w.cell? ⟨N, 1, none⟩ = some (str [])
  c2 : w.cell? ⟨N, 2, none⟩ = some vn
  c3 : w.cell? ⟨N, 3, none⟩ = some vk
  f2 : w.frozen? ⟨N, 2, none⟩ = false
  f3 : w.frozen? ⟨N, 3, none⟩ = false
theorem NC.lt {N kd : Nat} {vn vk : Value} {w : World} (h : NC N kd vn vk w) : N < w.heap.size := World.block_lt_of_cell? w ⟨N, 0, none⟩ h.c0
theorem NC.kept {S : Nat → Prop} {N kd : Nat} {vn vk : Value} {w w' : World} (h : NC N kd vn vk w) (k : Kept S w w') (hn : ¬ S N) : NC N kd vn vk w' :=
  ⟨k.cell h.c0 hn, k.cell h.c1 hn, k.cell h.c2 hn, k.cell h.c3 hn, k.frozen (a := ⟨N, 2, none⟩) h.lt h.f2 hn, k.frozen (a := ⟨N, 3, none⟩) h.lt h.f3 hn⟩
/-- What is not the tree's. -/
abbrev apart (X : Nat → Prop) (N : Nat) (vn vk : Value) : Nat → Prop := fun g => X g ∨ g = N ∨ vn.ownBlock = some g ∨ vk.ownBlock = some g
structure LQ (X : Nat → Prop) (b N : Nat) (s : List UInt8) (L : List Nd) (w0 : World) (kd q : Nat) (bad : Bool) (M : List Nd) (names : List (List UInt8)) (kids : List Nat) (vn vk : Value) (w : World) : Prop where
  ts : TS (apart X N vn vk) b s q bad (L ++ M) w
  nc : NC N kd vn vk w
  rn : w.ownsRow 0 9 1 vn names.length (names.map str)
  rk : irow w vk kids
  on : ∀ g, vn.ownBlock = some g → ¬ X g ∧ g ≠ N
  ok : ∀ g, vk.ownBlock = some g → ¬ X g ∧ g ≠ N ∧ vn.ownBlock ≠ some g
  kept : Kept (fun g => ¬ X g) w0 w
  nX : ¬ X N
  hX : ∀ g, X g → g < w0.heap.size
theorem LQ.top {X : Nat → Prop} {b N : Nat} {s : List UInt8} {L : List Nd} {w0 : World} {kd q : Nat} {bad : Bool} {M : List Nd} {names : List (List UInt8)} {kids : List Nat} {vn vk : Value} {w : World} (h : LQ X b N s L w0 kd q bad M names kids vn vk w) :
    ∀ g, apart X N vn vk g → g < w.heap.size := by
  rintro g (e | e | e | e)
  · have := h.hX g e; have := h.kept.size; omega
  · rw [e]; exact h.nc.lt
  · exact (World.ownsRow.lt h.rn g e).2
  · exact (World.ownsRow.lt h.rk g e).2
theorem LQ.tree {X : Nat → Prop} {b N : Nat} {s : List UInt8} {L : List Nd} {w0 : World} {kd q q' : Nat} {bad bad' : Bool} {M M' : List Nd} {names : List (List UInt8)} {kids : List Nat} {vn vk : Value} {w w' : World} (h : LQ X b N s L w0 kd q bad M names kids vn vk w)
    (t : TS (apart X N vn vk) b s q' bad' (L ++ M') w') (k : Kept (fun g => ¬ apart X N vn vk g) w w') : LQ X b N s L w0 kd q' bad' M' names kids vn vk w' :=
  ⟨t, h.nc.kept k (fun e => e (Or.inr (Or.inl rfl))), k.row h.rn (fun _g hg e => e (Or.inr (Or.inr (Or.inl hg)))), k.row h.rk (fun _g hg e => e (Or.inr (Or.inr (Or.inr hg)))), h.on, h.ok, h.kept.trans k (fun _ _ e e2 => e (Or.inl e2)), h.nX, h.hX⟩
/-- The tree's cells alone change. -/
theorem LQ.cells {X : Nat → Prop} {b N : Nat} {s : List UInt8} {L : List Nd} {w0 : World} {kd q : Nat} {bad : Bool} {M : List Nd} {names : List (List UInt8)} {kids : List Nat} {vn vk : Value} {w : World} (h : LQ X b N s L w0 kd q bad M names kids vn vk w) :
    ∃ v, TC b s q bad v w ∧ ∀ (q' : Nat) (bad' : Bool) (w' : World), TC b s q' bad' v w' → Kept (· = b) w w' → LQ X b N s L w0 kd q' bad' M names kids vn vk w' := by
  obtain ⟨v, h1, h2⟩ := h.ts.cells
  exact ⟨v, h1, fun q' bad' w' hT k => h.tree (h2 q' bad' w' hT k) (k.mono (fun g _ e => by subst e; exact h.ts.nX))⟩
theorem LQ.pushK {X : Nat → Prop} {b N : Nat} {s : List UInt8} {L : List Nd} {w0 : World} {kd q : Nat} {bad : Bool} {M : List Nd} {names : List (List UInt8)} {kids : List Nat} {vn vk : Value} {w wA w3 : World} (h : LQ X b N s L w0 kd q bad M names kids vn vk w)
    (bA : Below w.heap.size w wA) {g cap n : Nat} (r3 : irow w3 (.slice (some ⟨g, 0, none⟩) (kids.length + 1) cap) (kids ++ [n])) (g4 : wA.grownBy w3 vk.ownBlock) (h5 : vk.ownBlock = some g ∨ g = wA.heap.size) :
    LQ X b N s L w0 kd q bad M names (kids ++ [n]) vn (.slice (some ⟨g, 0, none⟩) (kids.length + 1) cap) (w3.setCell ⟨N, 3, none⟩ (.slice (some ⟨g, 0, none⟩) (kids.length + 1) cap)) := by
  have sA := bA.size; have s4 := g4.size; have s0 := h.kept.size; have hN := h.nc.lt
  have K1 : Kept (fun x => vk.ownBlock = some x) w w3 :=
    ((Kept.of_below bA).mono (T := fun x => vk.ownBlock = some x) (fun x hx e => by omega)).trans (Kept.of_grown g4) (fun x _ e => e)
  have KV : Kept (· = N) w3 (w3.setCell ⟨N, 3, none⟩ (.slice (some ⟨g, 0, none⟩) (kids.length + 1) cap)) := Kept.of_grown1 (grown_set _ _ _ _)
  have nc3 : NC N kd vn vk w3 := h.nc.kept K1 (fun e => (h.ok N e).2.1 rfl)
  have hgX : ¬ X g ∧ g ≠ N ∧ vn.ownBlock ≠ some g := by
    rcases h5 with e | e
    · exact h.ok g e
    · exact ⟨fun e2 => by have := h.hX g e2; omega, by omega, fun e2 => by have := (World.ownsRow.lt h.rn g e2).2; omega⟩
  refine ⟨?_, ?_, ?_, ?_, h.on, ?_, ?_, h.nX, h.hX⟩
  · refine h.ts.others (w' := w3.setCell ⟨N, 3, none⟩ (.slice (some ⟨g, 0, none⟩) (kids.length + 1) cap)) (((K1.mono (T := apart X N vn vk) (fun x _ e => Or.inr (Or.inr (Or.inr e)))).trans KV (fun x _ e => Or.inr (Or.inl e)))) ?_
    rintro x (e | e | e | e)
    · exact Or.inl (Or.inl e)
    · exact Or.inl (Or.inr (Or.inl e))
    · exact Or.inl (Or.inr (Or.inr (Or.inl e)))
    · simp [Value.ownBlock] at e
      subst e
      rcases h5 with e | e
      · exact Or.inl (Or.inr (Or.inr (Or.inr e)))
      · right; omega
  · obtain ⟨c0, c1, c2, c3, f2, f3⟩ := nc3
    refine ⟨?_, ?_, ?_, ?_, ?_, ?_⟩ <;> simp [go_sem, c0, c1, c2, c3, f2, f3]
  · exact KV.row (K1.row h.rn (fun x hx e => (h.ok x e).2.2 hx)) (fun x hx e => (h.on x hx).2 e)
  · exact KV.row r3 (fun x hx e => by simp [Value.ownBlock] at hx; subst hx; exact hgX.2.1 e)
  · intro x hx; simp [Value.ownBlock] at hx; subst hx; exact hgX
  · exact (h.kept.trans K1 (fun x _ e => (h.ok x e).1)).trans KV (fun x _ e => by subst e; exact h.nX)
theorem LQ.pushN {X : Nat → Prop} {b N : Nat} {s : List UInt8} {L : List Nd} {w0 : World} {kd q : Nat} {bad : Bool} {M : List Nd} {names : List (List UInt8)} {kids : List Nat} {vn vk : Value} {w wA w3 : World} (h : LQ X b N s L w0 kd q bad M names kids vn vk w)
    (bA : Below w.heap.size w wA) {g cap : Nat} {n : List UInt8} (r3 : w3.ownsRow 0 9 1 (.slice (some ⟨g, 0, none⟩) (names.length + 1) cap) (names ++ [n]).length ((names ++ [n]).map str)) (g4 : wA.grownBy w3 vn.ownBlock) (h5 : vn.ownBlock = some g ∨ g = wA.heap.size) :
    LQ X b N s L w0 kd q bad M (names ++ [n]) kids (.slice (some ⟨g, 0, none⟩) (names.length + 1) cap) vk (w3.setCell ⟨N, 2, none⟩ (.slice (some ⟨g, 0, none⟩) (names.length + 1) cap)) := by
  have sA := bA.size; have s4 := g4.size; have s0 := h.kept.size; have hN := h.nc.lt
  have K1 : Kept (fun x => vn.ownBlock = some x) w w3 :=
    ((Kept.of_below bA).mono (T := fun x => vn.ownBlock = some x) (fun x hx e => by omega)).trans (Kept.of_grown g4) (fun x _ e => e)
  have KV : Kept (· = N) w3 (w3.setCell ⟨N, 2, none⟩ (.slice (some ⟨g, 0, none⟩) (names.length + 1) cap)) := Kept.of_grown1 (grown_set _ _ _ _)
  have nc3 : NC N kd vn vk w3 := h.nc.kept K1 (fun e => (h.on N e).2 rfl)
  have hgX : ¬ X g ∧ g ≠ N ∧ vk.ownBlock ≠ some g := by
    rcases h5 with e | e
    · exact ⟨(h.on g e).1, (h.on g e).2, fun e2 => (h.ok g e2).2.2 e⟩
    · exact ⟨fun e2 => by have := h.hX g e2; omega, by omega, fun e2 => by have := (World.ownsRow.lt h.rk g e2).2; omega⟩
  refine ⟨?_, ?_, ?_, ?_, ?_, ?_, ?_, h.nX, h.hX⟩
  · refine h.ts.others (w' := w3.setCell ⟨N, 2, none⟩ (.slice (some ⟨g, 0, none⟩) (names.length + 1) cap)) (((K1.mono (T := apart X N vn vk) (fun x _ e => Or.inr (Or.inr (Or.inl e)))).trans KV (fun x _ e => Or.inr (Or.inl e)))) ?_
    rintro x (e | e | e | e)
    · exact Or.inl (Or.inl e)
    · exact Or.inl (Or.inr (Or.inl e))
    · simp [Value.ownBlock] at e
      subst e
      rcases h5 with e | e
      · exact Or.inl (Or.inr (Or.inr (Or.inl e)))
      · right; omega
    · exact Or.inl (Or.inr (Or.inr (Or.inr e)))
  · obtain ⟨c0, c1, c2, c3, f2, f3⟩ := nc3
    refine ⟨?_, ?_, ?_, ?_, ?_, ?_⟩ <;> simp [go_sem, c0, c1, c2, c3, f2, f3]
  · exact KV.row r3 (fun x hx e => by simp [Value.ownBlock] at hx; subst hx; exact hgX.2.1 e)
  · exact KV.row (K1.row h.rk (fun x hx e => (h.ok x hx).2.2 e)) (fun x hx e => (h.ok x hx).2.1 e)
  · intro x hx; simp [Value.ownBlock] at hx; subst hx; exact ⟨hgX.1, hgX.2.1⟩
  · intro x hx
    refine ⟨(h.ok x hx).1, (h.ok x hx).2.1, fun e => ?_⟩
    simp [Value.ownBlock] at e
    subst e
    exact hgX.2.2 hx
  · exact (h.kept.trans K1 (fun x _ e => (h.on x e).1)).trans KV (fun x _ e => by subst e; exact h.nX)
/-- It begins. -/
theorem LQ.start {X : Nat → Prop} {b : Nat} {s : List UInt8} {q : Nat} {bad : Bool} {L : List Nd} {w : World} (hX : ∀ g, X g → g < w.heap.size) (h : TS X b s q bad L w) (kd : Nat) :
    LQ X b w.heap.size s L w kd q bad [] [] [] (.slice none 0 0) (.slice none 0 0) (w.alloc (.cells #[.int .u8 (kd : Int), str [], .slice none 0 0, .slice none 0 0] 104)) := by
  refine ⟨?_, ?_, World.ownsRow_nil _ _ _ _, World.ownsRow_nil _ _ _ _, (fun g e => by cases e), (fun g e => by cases e), (Kept.refl _ w).alloc _, fun e => Nat.lt_irrefl _ (hX _ e), hX⟩
  · rw [List.append_nil]
    refine h.others ((Kept.refl X w).alloc _) ?_
    rintro g (e | e | e | e)
    · exact Or.inl e
    · right; omega
    · cases e
    · cases e
  · refine ⟨?_, ?_, ?_, ?_, ?_, ?_⟩ <;> simp [go_sem]
end Go.Proofs.YtinnliapfdpfpaaDoor.P
