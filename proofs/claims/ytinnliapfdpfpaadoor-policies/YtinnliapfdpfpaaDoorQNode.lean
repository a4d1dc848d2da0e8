/-
  THE DOCUMENT's READER OF JSON: its table of nodes, and how it lies in memory.
-/
import Derived.Test.YtinnliapfdpfpaaDoorQScan
import Derived.Test.YtinnliapfdpfpaaDoorPRule
namespace Go.Proofs.YtinnliapfdpfpaaDoor.P
open Go.RowKit

theorem qrow_mono {w : World} {B : Nat} {e : TypeId} {size : Nat} {v : Value} {n : Nat} {xs : List Value} (h : w.ownsRow B e size v n xs) : w.ownsRow 0 e size v n xs := by
  refine ⟨h.1, ?_⟩
  rcases h.2 with h0 | ⟨g, cap, cur, hv, _, rest⟩
  · exact .inl h0
  · exact .inr ⟨g, cap, cur, hv, Nat.zero_le _, rest⟩
structure Nd where
  kind : Nat
  text : List UInt8
  names : List (List UInt8)
  kids : List Nat
/-- A value in the table: which node it is. -/
def treeJ : Nat → List Nd → Nat → J → Prop
  | 0, _, _, _ => False
  | k + 1, L, n, j => ∃ nd, L[n]? = some nd ∧ match j with
    | .str s => nd.kind = 34 ∧ nd.text = s ∧ nd.names = []
    | .bool _ => nd.kind = 119 ∧ nd.names = []
    | .null => nd.kind = 119 ∧ nd.names = []
    | .arr l => nd.kind = 91 ∧ nd.names = [] ∧ all2 (fun i j => treeJ k L i j) nd.kids l
    | .obj l => nd.kind = 123 ∧ nd.names = l.map (·.1) ∧ all2 (fun i (j : List UInt8 × J) => treeJ k L i j.2) nd.kids l
theorem treeJ.more : ∀ (k : Nat) {L : List Nd} {n : Nat} {j : J} (M : List Nd), treeJ k L n j → treeJ k (L ++ M) n j
  | 0, _, _, _, _, h => h
  | k + 1, L, n, j, M, ⟨nd, h1, h2⟩ => by
    refine ⟨nd, ?_, ?_⟩
    · rw [List.getElem?_append_left]
      · exact h1
      · exact (List.getElem?_eq_some_iff.1 h1).1
    · cases j with
      | str s => exact h2
      | bool x => exact h2
      | null => exact h2
      | arr l => exact ⟨h2.1, h2.2.1, all2_mono (fun _ _ hr => treeJ.more k M hr) h2.2.2⟩
      | obj l => exact ⟨h2.1, h2.2.1, all2_mono (fun _ _ hr => treeJ.more k M hr) h2.2.2⟩

abbrev RawN := Nat × List UInt8 × Value × Value
abbrev ncell (u : RawN) : List Value := [.int .u8 (u.1 : Int), str u.2.1, u.2.2.1, u.2.2.2]
def ncells (us : List RawN) : List Value := us.flatMap ncell
def kidV (n : Nat) : Value := .int .i64 (n : Int)
/-- How a node lies in memory. -/
structure nodeAt (w : World) (P : Nat → Prop) (u : RawN) (nd : Nd) : Prop where
  kind : u.1 = nd.kind
  text : u.2.1 = nd.text
  names : w.ownsRow 0 9 1 u.2.2.1 nd.names.length (nd.names.map str)
  kids : w.ownsRow 0 3 1 u.2.2.2 nd.kids.length (nd.kids.map kidV)
  pn : ∀ g, u.2.2.1.ownBlock = some g → P g
  pk : ∀ g, u.2.2.2.ownBlock = some g → P g
theorem nodeAt.mono {w : World} {P Q : Nat → Prop} {u : RawN} {nd : Nd} (h : nodeAt w P u nd) (hq : ∀ g, P g → Q g) : nodeAt w Q u nd :=
  ⟨h.kind, h.text, h.names, h.kids, fun g e => hq g (h.pn g e), fun g e => hq g (h.pk g e)⟩
theorem nodeAt.kept {w w' : World} {S P : Nat → Prop} {u : RawN} {nd : Nd} (h : nodeAt w P u nd) (k : Kept S w w') (hq : ∀ g, P g → ¬ S g) : nodeAt w' P u nd :=
  ⟨h.kind, h.text, k.row h.names (fun g e => hq g (h.pn g e)), k.row h.kids (fun g e => hq g (h.pk g e)), h.pn, h.pk⟩
theorem nodeAt.inb {w : World} {P : Nat → Prop} {u : RawN} {nd : Nd} (h : nodeAt w P u nd) : nodeAt w (fun g => P g ∧ g < w.heap.size) u nd :=
  ⟨h.kind, h.text, h.names, h.kids, fun g e => ⟨h.pn g e, (World.ownsRow.lt h.names g e).2⟩, fun g e => ⟨h.pk g e, (World.ownsRow.lt h.kids g e).2⟩⟩
/-- The tree, in blocks that are none of X. -/
structure TS (X : Nat → Prop) (b : Nat) (s : List UInt8) (p : Nat) (bad : Bool) (L : List Nd) (w : World) : Prop where
  nX : ¬ X b
  vals : ∃ v us, TC b s p bad v w ∧ w.ownsRow 0 104 4 v L.length (ncells us) ∧ (∀ g, v.ownBlock = some g → ¬ X g ∧ g ≠ b) ∧
    all2 (nodeAt w (fun g => ¬ X g ∧ g ≠ b ∧ v.ownBlock ≠ some g)) us L
theorem TS.lt {X : Nat → Prop} {b : Nat} {s : List UInt8} {p : Nat} {bad : Bool} {L : List Nd} {w : World} (h : TS X b s p bad L w) : b < w.heap.size := by obtain ⟨v, us, h1, _⟩ := h.vals; exact h1.lt
/-- Others change what is theirs, and take new blocks. -/
theorem TS.others {X X' : Nat → Prop} {b : Nat} {s : List UInt8} {p : Nat} {bad : Bool} {L : List Nd} {w w' : World} (h : TS X b s p bad L w) (k : Kept X w w') (hx : ∀ g, X' g → X g ∨ w.heap.size ≤ g) : TS X' b s p bad L w' := by
  obtain ⟨v, us, h1, h2, h3, h4⟩ := h.vals
  have hb := h1.lt
  refine ⟨fun e => ?_, v, us, h1.kept k h.nX, k.row h2 (fun g hg => (h3 g hg).1), fun g hg => ⟨fun e => ?_, (h3 g hg).2⟩, ?_⟩
  · rcases hx b e with e | e
    · exact h.nX e
    · omega
  · rcases hx g e with e | e
    · exact (h3 g hg).1 e
    · have := (World.ownsRow.lt h2 g hg).2; omega
  · refine all2_mono (fun u nd hr => (hr.inb.kept k (fun g hg => hg.1.1)).mono (fun g hg => ⟨fun e => ?_, hg.1.2.1, hg.1.2.2⟩)) h4
    rcases hx g e with e | e
    · exact hg.1.1 e
    · omega
/-- The tree's own cells change. -/
theorem TS.cells {X : Nat → Prop} {b : Nat} {s : List UInt8} {p : Nat} {bad : Bool} {L : List Nd} {w : World} (h : TS X b s p bad L w) : ∃ v, TC b s p bad v w ∧ ∀ (q : Nat) (bad' : Bool) (w' : World), TC b s q bad' v w' → Kept (· = b) w w' → TS X b s q bad' L w' := by
  obtain ⟨v, us, h1, h2, h3, h4⟩ := h.vals
  refine ⟨v, h1, fun q bad' w' hT k => ⟨h.nX, v, us, hT, k.row h2 (fun g hg => (h3 g hg).2), h3, all2_mono (fun u nd hr => hr.kept k (fun g hg => hg.2.1)) h4⟩⟩
end Go.Proofs.YtinnliapfdpfpaaDoor.P
