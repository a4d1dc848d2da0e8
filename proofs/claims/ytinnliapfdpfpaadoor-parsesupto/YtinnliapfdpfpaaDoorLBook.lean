/-
  THE LAW'S BOOK: the lists that came out, each with its mark.
-/
import Derived.Test.YtinnliapfdpfpaaDoorLApp
namespace Go.Proofs.YtinnliapfdpfpaaDoor.R
open Go.RowKit
open Go.Proofs.YtinnliapfdpfpaaDoor.C (grown_trans grown_set grown_then grown_below)

theorem owns_via {w w' : World} {base : Nat} {e : TypeId} {size : Nat} {v : Value} {n : Nat} {xs : List Value} (h : w.ownsRow base e size v n xs) (hb : ∀ k, v.ownBlock = some k → w'.heap[k]? = w.heap[k]?) : w'.ownsRow base e size v n xs := by
  refine ⟨h.1, ?_⟩
  rcases h.2 with hn | ⟨g, cap, cur, rfl, hbg, hg, rest⟩
  · exact .inl hn
  · exact .inr ⟨g, cap, cur, rfl, hbg, (hb g rfl).trans hg, rest⟩
theorem phold_via {w w' : World} {B B' : Nat} {v : Value} {l : Ps} (h : phold w B v l) (hB : B ≤ B') (hb : ∀ k, v.ownBlock = some k → w'.heap[k]? = w.heap[k]?) : phold w' B' v l := by
  rcases h with h | ⟨g, cap, rfl, hg, hc⟩
  · exact .inl h
  · have hk := hb g rfl
    exact .inr ⟨g, cap, rfl, by omega, fun j hj => ⟨(World.cell?_of_block (a := ⟨g, j * 2, none⟩) hk).trans (hc j hj).1, (World.cell?_of_block (a := ⟨g, j * 2 + 1, none⟩) hk).trans (hc j hj).2⟩⟩
theorem phold.blk {w : World} {B : Nat} {v : Value} {l : Ps} (h : phold w B v l) : ∀ k, v.ownBlock = some k → k < B := by
  intro k hk
  rcases h with ⟨rfl, _⟩ | ⟨g, cap, rfl, hg, hc⟩
  · simp [Value.ownBlock] at hk
  · simp [Value.ownBlock] at hk; omega
theorem Appended.size {w w' : World} {base : Nat} {e : TypeId} {size : Nat} {v v' : Value} {n m : Nat} {xs news : List Value} (A : Appended w w' base e size v v' n m xs news) : w.heap.size ≤ w'.heap.size := by
  rcases A.either with ⟨g, _, _, h⟩ | ⟨_, h⟩
  · exact h.size
  · exact h.size
theorem Appended.block {w w' : World} {base : Nat} {e : TypeId} {size : Nat} {v v' : Value} {n m : Nat} {xs news : List Value} (A : Appended w w' base e size v v' n m xs news) {k : Nat} (hk : k < w.heap.size) (hne : v.ownBlock ≠ some k) : w'.heap[k]? = w.heap[k]? := by
  rcases A.either with ⟨g, h1, _, h⟩ | ⟨_, h⟩
  · exact h.block k hk (fun e => hne (by rw [h1, ← e]))
  · exact h.block k hk
theorem Appended.io {w w' : World} {base : Nat} {e : TypeId} {size : Nat} {v v' : Value} {n m : Nat} {xs news : List Value} (A : Appended w w' base e size v v' n m xs news) : w'.os = w.os ∧ w'.tape = w.tape ∧ w'.output = w.output := by
  rcases A.either with ⟨g, _, _, h⟩ | ⟨_, h⟩
  · exact ⟨h.os, h.tape, h.output⟩
  · exact ⟨h.os, h.tape, h.output⟩
theorem Appended.new {w w' : World} {base : Nat} {e : TypeId} {size : Nat} {v v' : Value} {n m : Nat} {xs news : List Value} (A : Appended w w' base e size v v' n m xs news) {g : Nat} (hg : g < w.heap.size) (hne : v.ownBlock ≠ some g) : v'.ownBlock ≠ some g := by
  rcases A.either with ⟨k, h1, h2, _⟩ | ⟨h2, _⟩
  · rw [h2, ← h1]; exact hne
  · rw [h2]; simp; omega

/-- A list that was kept holds its mark. -/
def keptV (w : World) (v : Value) (m : Bs) : Prop := ∃ n, n ≤ 100000000 ∧ phold w w.heap.size v (List.replicate n (m, m))
theorem keptV.via {w w' : World} {v : Value} {m : Bs} (h : keptV w v m) (hs : w.heap.size ≤ w'.heap.size) (hb : ∀ k, v.ownBlock = some k → w'.heap[k]? = w.heap[k]?) : keptV w' v m := by
  obtain ⟨n, hn, h⟩ := h
  exact ⟨n, hn, phold_via h hs hb⟩
theorem keptV.blk {w : World} {v : Value} {m : Bs} (h : keptV w v m) : ∀ k, v.ownBlock = some k → k < w.heap.size := by
  obtain ⟨n, _, h⟩ := h; exact h.blk

/-- The book at block b: its two rows lie from block B on, apart; what it keeps holds its marks and lies apart from it. -/
structure book (w : World) (b B : Nat) (vL vM : Value) (K : List (Value × Bs)) (nx : Nat) : Prop where
  c0 : w.cell? ⟨b, 0, none⟩ = some vL
  c1 : w.cell? ⟨b, 1, none⟩ = some vM
  c2 : w.cell? ⟨b, 2, none⟩ = some (.int .i64 nx)
  fz : ∀ j : Nat, w.frozen? ⟨b, j, none⟩ = false
  rL : w.ownsRow B 33 1 vL K.length (K.map (·.1))
  rM : srow w B vM (K.map (·.2))
  bB : b < B
  wB : B ≤ w.heap.size
  sep : ∀ g, vL.ownBlock = some g → vM.ownBlock ≠ some g
  good : ∀ x ∈ K, keptV w x.1 x.2
  far : ∀ x ∈ K, ∀ g, x.1.ownBlock = some g → B ≤ g ∧ vL.ownBlock ≠ some g ∧ vM.ownBlock ≠ some g
/-- What the book's own calls touch. -/
structure Touch (w w' : World) (b : Nat) (vL vM vL' vM' : Value) : Prop where
  os : w'.os = w.os
  tape : w'.tape = w.tape
  output : w'.output = w.output
  size : w.heap.size ≤ w'.heap.size
  block : ∀ k, k < w.heap.size → k ≠ b → vL.ownBlock ≠ some k → vM.ownBlock ≠ some k → w'.heap[k]? = w.heap[k]?
  newL : ∀ g, g < w.heap.size → vL.ownBlock ≠ some g → vL'.ownBlock ≠ some g
  newM : ∀ g, g < w.heap.size → vM.ownBlock ≠ some g → vM'.ownBlock ≠ some g
theorem book.blkL {w : World} {b B : Nat} {vL vM : Value} {K : List (Value × Bs)} {nx : Nat} (I : book w b B vL vM K nx) : ∀ k, vL.ownBlock = some k → B ≤ k ∧ k < w.heap.size := World.ownsRow.lt I.rL
theorem book.blkM {w : World} {b B : Nat} {vL vM : Value} {K : List (Value × Bs)} {nx : Nat} (I : book w b B vL vM K nx) : ∀ k, vM.ownBlock = some k → B ≤ k ∧ k < w.heap.size := World.ownsRow.lt I.rM
theorem book.lt {w : World} {b B : Nat} {vL vM : Value} {K : List (Value × Bs)} {nx : Nat} (I : book w b B vL vM K nx) : b < w.heap.size := World.block_lt_of_cell? w _ I.c0
/-- Where nothing of the book has turned. -/
theorem book.via {w w' : World} {b B : Nat} {vL vM : Value} {K : List (Value × Bs)} {nx : Nat} (I : book w b B vL vM K nx) (hs : w.heap.size ≤ w'.heap.size) (hb : w'.heap[b]? = w.heap[b]?)
    (hL : ∀ k, vL.ownBlock = some k → w'.heap[k]? = w.heap[k]?) (hM : ∀ k, vM.ownBlock = some k → w'.heap[k]? = w.heap[k]?) (hK : ∀ x ∈ K, ∀ k, x.1.ownBlock = some k → w'.heap[k]? = w.heap[k]?) : book w' b B vL vM K nx :=
  ⟨(World.cell?_of_block (a := ⟨b, 0, none⟩) hb).trans I.c0, (World.cell?_of_block (a := ⟨b, 1, none⟩) hb).trans I.c1, (World.cell?_of_block (a := ⟨b, 2, none⟩) hb).trans I.c2, fun j => (World.frozen?_of_block (a := ⟨b, j, none⟩) hb).trans (I.fz j),
   owns_via I.rL hL, owns_via I.rM hM, I.bB, Nat.le_trans I.wB hs, I.sep, fun x hx => (I.good x hx).via hs (hK x hx), I.far⟩
theorem book.below {w w' : World} {b B : Nat} {vL vM : Value} {K : List (Value × Bs)} {nx : Nat} (I : book w b B vL vM K nx) (k : Below w.heap.size w w') : book w' b B vL vM K nx :=
  I.via k.size (k.block b I.lt) (fun j hj => k.block j (I.blkL j hj).2) (fun j hj => k.block j (I.blkM j hj).2) (fun x hx j hj => k.block j ((I.good x hx).blk j hj))

theorem Tryd.infoL : (Tryd.prog.info? 33).map (fun i => (i.zero, i.size, i.bytes)) = some (some (.slice none 0 0), 1, 24) := by kernel_rfl
theorem lapp_law {w : World} {ops : Array Oper} {rest : List Oper} {o : Oper} {a : Act} {Q : Exit → Act → World → Prop} (hgd : o.guard = none) (s x : Operand)
    (ho : o.op = .call { callee := .builtin .append, args := #[s, x], argTypes := #[30, 30] })
    (B : Nat) (l : List Value) (p : Value) (hp : p.oneCell' = true) (v : Value) (hs : a.eval s = v) (N : Nat) (hown : w.ownsRow B 33 1 v N l) (H : Nat) (hx : a.eval x = .slice (some ⟨H, 0, none⟩) 1 1)
    (fr : Nat × Nat) (hblk : w.heap[H]? = some (.cells #[p] 33 fr)) (hlen : N ≤ 1000000000) (hB : B ≤ w.heap.size)
    (h : ∀ v' w', Appended w w' B 33 1 v v' N 1 l [p] → wpList Tryd.prog ops Q rest (a.put o.dst v') w') : wpList Tryd.prog ops Q (o :: rest) a w := by
  obtain ⟨i0, hi, hz0, hz1, hz2⟩ := info_parts Tryd.infoL
  exact wpList_append_two _ hgd s x 30 ho B 33 i0 (.slice none 0 0) 1 24 Tryd.underlying30 hi hz0 hz1 hz2 rfl v N l hs hown ⟨H, 0, none⟩ 1 1 [p] hx (by simp)
    (fun j u hu => World.news_of_block hblk j u (by simpa using hu)) (by intro u hu; simp at hu; subst hu; exact hp) (by omega) (by unfold maxLen; omega) (by omega) hB h
theorem mapp_law {w : World} {ops : Array Oper} {rest : List Oper} {o : Oper} {a : Act} {Q : Exit → Act → World → Prop} (hgd : o.guard = none) (s x : Operand)
    (ho : o.op = .call { callee := .builtin .append, args := #[s, x], argTypes := #[28, 28] })
    (B : Nat) (l : List Bs) (p : Bs) (v : Value) (hs : a.eval s = v) (hown : srow w B v l) (H : Nat) (hx : a.eval x = .slice (some ⟨H, 0, none⟩) 1 1)
    (fr : Nat × Nat) (hblk : w.heap[H]? = some (.cells #[str p] 9 fr)) (hlen : l.length ≤ 1000000000) (hB : B ≤ w.heap.size)
    (h : ∀ v' w', Appended w w' B 9 1 v v' l.length 1 (l.map str) [str p] → wpList Tryd.prog ops Q rest (a.put o.dst v') w') : wpList Tryd.prog ops Q (o :: rest) a w := by
  obtain ⟨i0, hi, hz0, hz1, hz2⟩ := info_parts Tryd.infoS
  exact wpList_append_two _ hgd s x 28 ho B 9 i0 (.string ⟨#[]⟩) 1 16 Tryd.underlying28 hi hz0 hz1 hz2 rfl v l.length (l.map str) hs hown ⟨H, 0, none⟩ 1 1 [str p] hx (by simp)
    (fun j u hu => World.news_of_block hblk j u (by simpa using hu)) (by intro u hu; simp at hu; subst hu; rfl) (by omega) (by unfold maxLen; omega) (by omega) hB h
theorem heap_set_ne {w : World} {g j k : Nat} {x : Value} (h : k ≠ g) : (w.setCell ⟨g, j, none⟩ x).heap[k]? = w.heap[k]? := Below.heap_setCell w ⟨g, j, none⟩ x k h
theorem heap_alloc_lt {w : World} {o : Obj} {k : Nat} (h : k < w.heap.size) : (w.alloc o).heap[k]? = w.heap[k]? := Below.heap_alloc w o k h
end Go.Proofs.YtinnliapfdpfpaaDoor.R
