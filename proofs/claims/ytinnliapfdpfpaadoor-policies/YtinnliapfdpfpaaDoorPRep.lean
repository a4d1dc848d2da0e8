/-
  WHAT STAYS AS IT WAS, and how a JSON value of the program lies in memory.
-/
import Derived.Test.YtinnliapfdpfpaaDoorPRead
namespace Go.Proofs.YtinnliapfdpfpaaDoor.P
open Go.RowKit

/-- All blocks but those of S are as they were. -/
structure Kept (S : Nat → Prop) (w w' : World) : Prop where
  os : w'.os = w.os
  tape : w'.tape = w.tape
  output : w'.output = w.output
  size : w.heap.size ≤ w'.heap.size
  block : ∀ k, k < w.heap.size → ¬ S k → w'.heap[k]? = w.heap[k]?
theorem Kept.refl (S : Nat → Prop) (w : World) : Kept S w w := ⟨rfl, rfl, rfl, Nat.le_refl _, fun _ _ _ => rfl⟩
theorem Kept.trans {S T : Nat → Prop} {a b c : World} (h : Kept S a b) (k : Kept T b c) (hs : ∀ j, j < a.heap.size → T j → S j) : Kept S a c :=
  ⟨k.os.trans h.os, k.tape.trans h.tape, k.output.trans h.output, Nat.le_trans h.size k.size, fun j hj hn => (k.block j (Nat.lt_of_lt_of_le hj h.size) (fun e => hn (hs j hj e))).trans (h.block j hj hn)⟩
theorem Kept.of_grown {r : Option Nat} {w w' : World} (h : w.grownBy w' r) : Kept (fun k => r = some k) w w' :=
  ⟨h.os, h.tape, h.output, h.size, fun k hk hn => h.block k hk (fun e => hn e.symm)⟩
theorem Kept.of_below {B : Nat} {w w' : World} (h : Below B w w') : Kept (fun k => B ≤ k) w w' :=
  ⟨h.os, h.tape, h.output, h.size, fun k _ hn => h.block k (by omega)⟩
theorem Kept.below {S : Nat → Prop} {B : Nat} {w w' : World} (h : Kept S w w') (hB : B ≤ w.heap.size) (hs : ∀ k, S k → B ≤ k) : Below B w w' :=
  ⟨h.os, h.tape, h.output, h.size, fun k hk => h.block k (by omega) (fun e => by have := hs k e; omega)⟩
theorem Kept.grown {b : Nat} {w w' : World} (h : Kept (· = b) w w') : w.grownBy w' (some b) :=
  ⟨h.os, h.tape, h.output, h.size, fun k hk hn => h.block k hk (fun e => hn (by rw [e]))⟩
theorem Kept.of_grown1 {b : Nat} {w w' : World} (h : w.grownBy w' (some b)) : Kept (· = b) w w' :=
  ⟨h.os, h.tape, h.output, h.size, fun k hk hn => h.block k hk (fun e => hn (by simpa using e))⟩
theorem Kept.mono {S T : Nat → Prop} {w w' : World} (h : Kept S w w') (hs : ∀ j, j < w.heap.size → S j → T j) : Kept T w w' :=
  ⟨h.os, h.tape, h.output, h.size, fun j hj hn => h.block j hj (fun e => hn (hs j hj e))⟩
theorem Kept.alloc {S : Nat → Prop} {a w : World} (h : Kept S a w) (o : Obj) : Kept S a (w.alloc o) :=
  h.trans (Kept.of_grown (World.grownBy_alloc w o none)) (fun _ _ e => by cases e)
theorem Kept.drew {S : Nat → Prop} {a w : World} (h : Kept S a w) : Kept S a w.drew := ⟨h.os, h.tape, h.output, h.size, h.block⟩
theorem Kept.setCell {S : Nat → Prop} {a w : World} (h : Kept S a w) (b o : Nat) (v : Value) (hs : b < a.heap.size → S b) : Kept S a (w.setCell ⟨b, o, none⟩ v) :=
  h.trans (Kept.of_grown1 (grown_set w b o v)) (fun j hj e => by cases e; exact hs hj)
theorem Kept.cell {S : Nat → Prop} {w w' : World} (h : Kept S w w') {a : Addr} {v : Value} (hc : w.cell? a = some v) (hn : ¬ S a.block) : w'.cell? a = some v :=
  (World.cell?_of_block (h.block a.block (World.block_lt_of_cell? w a hc) hn)).trans hc
theorem Kept.frozen {S : Nat → Prop} {w w' : World} (h : Kept S w w') {a : Addr} (hl : a.block < w.heap.size) (hf : w.frozen? a = false) (hn : ¬ S a.block) : w'.frozen? a = false :=
  (World.frozen?_of_block (h.block a.block hl hn)).trans hf
theorem Kept.row {S : Nat → Prop} {w w' : World} (h : Kept S w w') {B : Nat} {e : TypeId} {size : Nat} {v : Value} {n : Nat} {xs : List Value} (hr : w.ownsRow B e size v n xs) (hn : ∀ k, v.ownBlock = some k → ¬ S k) : w'.ownsRow B e size v n xs := by
  refine ⟨hr.1, ?_⟩
  rcases hr.2 with h0 | ⟨g, cap, cur, rfl, hb, hgg, rest⟩
  · exact .inl h0
  · exact .inr ⟨g, cap, cur, rfl, hb, (h.block g (Array.getElem?_eq_some_iff.1 hgg).1 (hn g rfl)).trans hgg, rest⟩
theorem Kept.rdr {S : Nat → Prop} {w w' : World} (h : Kept S w w') {b : Nat} {l : List UInt8} (hr : rdr w b l) (hn : ¬ S b) : rdr w' b l :=
  ⟨h.cell hr.1 hn, h.frozen (a := ⟨b, 0, none⟩) hr.lt hr.2 hn⟩

/-- Two lists, member by member. -/
def all2 {α β : Type} (R : α → β → Prop) : List α → List β → Prop
  | [], [] => True
  | a :: l, b :: m => R a b ∧ all2 R l m
  | _, _ => False
theorem all2_len {α β : Type} {R : α → β → Prop} : ∀ {l : List α} {m : List β}, all2 R l m → l.length = m.length
  | [], [], _ => rfl
  | _ :: _, _ :: _, h => by simp [all2_len h.2]
  | [], _ :: _, h => h.elim
  | _ :: _, [], h => h.elim
theorem all2_mono {α β : Type} {R T : α → β → Prop} (hR : ∀ a b, R a b → T a b) : ∀ {l : List α} {m : List β}, all2 R l m → all2 T l m
  | [], [], _ => trivial
  | _ :: _, _ :: _, h => ⟨hR _ _ h.1, all2_mono hR h.2⟩
  | [], _ :: _, h => h.elim
  | _ :: _, [], h => h.elim
theorem all2_snoc {α β : Type} {R : α → β → Prop} {a : α} {b : β} (hr : R a b) : ∀ {l : List α} {m : List β}, all2 R l m → all2 R (l ++ [a]) (m ++ [b])
  | [], [], _ => ⟨hr, trivial⟩
  | _ :: _, _ :: _, h => ⟨h.1, all2_snoc hr h.2⟩
  | [], _ :: _, h => h.elim
  | _ :: _, [], h => h.elim
theorem all2_get {α β : Type} {R : α → β → Prop} : ∀ {l : List α} {m : List β}, all2 R l m → ∀ (i : Nat) (h1 : i < l.length) (h2 : i < m.length), R l[i] m[i]
  | _ :: _, _ :: _, h, 0, _, _ => h.1
  | _ :: _, _ :: _, h, i + 1, h1, h2 => all2_get h.2 i (by simpa using h1) (by simpa using h2)
  | [], [], _, _, h1, _ => absurd h1 (by simp)
  | [], _ :: _, h, _, _, _ => h.elim
  | _ :: _, [], h, _, _, _ => h.elim

def mcells (us : List (List UInt8 × Value)) : List Value := us.flatMap fun p => [str p.1, p.2]
/-- How a JSON value lies in memory: its blocks are among P, the values within lie in blocks of their own. -/
def repJ : Nat → World → (Nat → Prop) → Value → J → Prop
  | 0, _, _, _, _ => False
  | _ + 1, _, _, v, .str s => v = .iface 177 (str s) ∧ s.length ≤ 4000
  | _ + 1, _, _, v, .bool b => v = .iface 178 (.bool b)
  | _ + 1, _, _, v, .null => v = .iface 179 (.agg #[])
  | k + 1, w, P, v, .arr l => ∃ sl us, v = .iface 134 sl ∧ w.ownsRow 0 94 1 sl l.length us ∧ (∀ g, sl.ownBlock = some g → P g) ∧
      all2 (fun u j => repJ k w (fun g => P g ∧ sl.ownBlock ≠ some g) u j) us l
  | k + 1, w, P, v, .obj l => ∃ sl us, v = .iface 138 sl ∧ w.ownsRow 0 164 2 sl l.length (mcells us) ∧ (∀ g, sl.ownBlock = some g → P g) ∧
      all2 (fun (u : List UInt8 × Value) (j : List UInt8 × J) => u.1 = j.1 ∧ repJ k w (fun g => P g ∧ sl.ownBlock ≠ some g) u.2 j.2) us l
theorem repJ.mono : ∀ (k : Nat) {w : World} {P Q : Nat → Prop} {v : Value} {j : J}, repJ k w P v j → (∀ g, P g → Q g) → repJ k w Q v j
  | 0, _, _, _, _, _, h, _ => h
  | _ + 1, _, _, _, _, .str _, h, _ => h
  | _ + 1, _, _, _, _, .bool _, h, _ => h
  | _ + 1, _, _, _, _, .null, h, _ => h
  | k + 1, _, _, _, _, .arr _, ⟨sl, us, h1, h2, h3, h4⟩, hq => ⟨sl, us, h1, h2, fun g hg => hq g (h3 g hg), all2_mono (fun _ _ hr => repJ.mono k hr (fun g hg => ⟨hq g hg.1, hg.2⟩)) h4⟩
  | k + 1, _, _, _, _, .obj _, ⟨sl, us, h1, h2, h3, h4⟩, hq => ⟨sl, us, h1, h2, fun g hg => hq g (h3 g hg), all2_mono (fun _ _ hr => ⟨hr.1, repJ.mono k hr.2 (fun g hg => ⟨hq g hg.1, hg.2⟩)⟩) h4⟩
theorem repJ.kept : ∀ (k : Nat) {w w' : World} {S P : Nat → Prop} {v : Value} {j : J}, repJ k w P v j → Kept S w w' → (∀ g, P g → ¬ S g) → repJ k w' P v j
  | 0, _, _, _, _, _, _, h, _, _ => h
  | _ + 1, _, _, _, _, _, .str _, h, _, _ => h
  | _ + 1, _, _, _, _, _, .bool _, h, _, _ => h
  | _ + 1, _, _, _, _, _, .null, h, _, _ => h
  | k + 1, _, _, _, _, _, .arr _, ⟨sl, us, h1, h2, h3, h4⟩, hk, hq => ⟨sl, us, h1, hk.row h2 (fun g hg => hq g (h3 g hg)), h3, all2_mono (fun _ _ hr => repJ.kept k hr hk (fun g hg => hq g hg.1)) h4⟩
  | k + 1, _, _, _, _, _, .obj _, ⟨sl, us, h1, h2, h3, h4⟩, hk, hq => ⟨sl, us, h1, hk.row h2 (fun g hg => hq g (h3 g hg)), h3, all2_mono (fun _ _ hr => ⟨hr.1, repJ.kept k hr.2 hk (fun g hg => hq g hg.1)⟩) h4⟩
theorem repJ.inb : ∀ (k : Nat) {w : World} {P : Nat → Prop} {v : Value} {j : J}, repJ k w P v j → repJ k w (fun g => P g ∧ g < w.heap.size) v j
  | 0, _, _, _, _, h => h
  | _ + 1, _, _, _, .str _, h => h
  | _ + 1, _, _, _, .bool _, h => h
  | _ + 1, _, _, _, .null, h => h
  | k + 1, _, _, _, .arr _, ⟨sl, us, h1, h2, h3, h4⟩ => ⟨sl, us, h1, h2, fun g hg => ⟨h3 g hg, (World.ownsRow.lt h2 g hg).2⟩, all2_mono (fun _ _ hr => repJ.mono k (repJ.inb k hr) (fun _ hg => ⟨⟨hg.1.1, hg.2⟩, hg.1.2⟩)) h4⟩
  | k + 1, _, _, _, .obj _, ⟨sl, us, h1, h2, h3, h4⟩ => ⟨sl, us, h1, h2, fun g hg => ⟨h3 g hg, (World.ownsRow.lt h2 g hg).2⟩, all2_mono (fun _ _ hr => ⟨hr.1, repJ.mono k (repJ.inb k hr.2) (fun _ hg => ⟨⟨hg.1.1, hg.2⟩, hg.1.2⟩)⟩) h4⟩
end Go.Proofs.YtinnliapfdpfpaaDoor.P
