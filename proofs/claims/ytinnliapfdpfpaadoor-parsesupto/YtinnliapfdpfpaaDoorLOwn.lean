/-
  THE LAW'S BOOK: what holds while a list is written full by its owner.
-/
import Derived.Test.YtinnliapfdpfpaaDoorLKeep
namespace Go.Proofs.YtinnliapfdpfpaaDoor.R
open Go.RowKit

abbrev rep (n : Nat) (m : Bs) : Ps := List.replicate n (m, m)
theorem rep_app (n j : Nat) (m : Bs) : pcells (rep n m) ++ pcells (rep j m) = pcells (rep (n + j) m) := by
  unfold rep pcells; rw [← List.flatMap_append, List.replicate_append_replicate]
theorem pcells_set (l : Ps) (p : Bs × Bs) : ∀ k, pcells (l.set k p) = ((pcells l).set (k * 2) (str p.1)).set (k * 2 + 1) (str p.2) := by
  induction l with
  | nil => intro k; simp [pcells]
  | cons q l ih =>
    intro k
    cases k with
    | zero => simp [pcells]
    | succ k =>
      have := ih k
      simp only [pcells, List.flatMap_cons, List.set_cons_succ] at this ⊢
      rw [this]
      rw [show (k + 1) * 2 = (k * 2 + 1) + 1 from by omega]
      simp
theorem book.via2 {w w' : World} {b B : Nat} {vL vM : Value} {K : List (Value × Bs)} {nx : Nat} (I : book w b B vL vM K nx) (hs : w.heap.size ≤ w'.heap.size) (hb : w'.heap[b]? = w.heap[b]?)
    (hL : ∀ k, vL.ownBlock = some k → w'.heap[k]? = w.heap[k]?) (hM : ∀ k, vM.ownBlock = some k → w'.heap[k]? = w.heap[k]?) (hK : ∀ x ∈ K, keptV w' x.1 x.2) : book w' b B vL vM K nx :=
  ⟨(World.cell?_of_block (a := ⟨b, 0, none⟩) hb).trans I.c0, (World.cell?_of_block (a := ⟨b, 1, none⟩) hb).trans I.c1, (World.cell?_of_block (a := ⟨b, 2, none⟩) hb).trans I.c2, fun j => (World.frozen?_of_block (a := ⟨b, j, none⟩) hb).trans (I.fz j),
   owns_via I.rL hL, owns_via I.rM hM, I.bB, Nat.le_trans I.wB hs, I.sep, hK, I.far⟩
theorem prow.kept {w : World} {B : Nat} {v : Value} {n : Nat} {m : Bs} (h : prow w B v (rep n m)) (hn : n ≤ 100000000) : keptV w v m := ⟨n, hn, h.hold⟩
/-- A shorter list in a block that is marked further. -/
theorem keptV.short {w w' : World} {B : Nat} {u v : Value} {N : Nat} {m : Bs} {g : Nat} (h : keptV w u m) (hu : u.ownBlock = some g) (hr : prow w' B v (rep N m)) (hv : v.ownBlock = some g) (hn : slLen u ≤ N) : keptV w' u m := by
  obtain ⟨n, hnn, h⟩ := h
  rcases h with ⟨rfl, _⟩ | ⟨g', cap, rfl, hg, hc⟩
  · simp [Value.ownBlock] at hu
  · simp [Value.ownBlock] at hu
    subst hu
    have hh := hr.hold
    rcases hh with ⟨rfl, _⟩ | ⟨g2, cap2, rfl, hg2, hc2⟩
    · simp [Value.ownBlock] at hv
    · simp [Value.ownBlock] at hv
      subst hv
      simp only [slLen, List.length_replicate] at hn
      refine ⟨n, hnn, .inr ⟨_, cap, rfl, hg2, fun k hk => ?_⟩⟩
      simp only [List.length_replicate] at hk
      have := hc2 k (by simp; omega)
      simpa using this

/-- While a list v of n pairs is written full with the mark m: the world w, w0 the one ahead. -/
structure St (w0 w : World) (b B : Nat) (vL0 vM0 : Value) (K0 : List (Value × Bs)) (vL vM : Value) (K : List (Value × Bs)) (nx : Nat) (v : Value) (n : Nat) (m : Bs) (xb N : Nat) : Prop where
  I : book w b B vL vM K nx
  row : prow w B v (rep n m)
  p0 : w.cell? ⟨xb, 0, none⟩ = some (str m)
  p1 : w.cell? ⟨xb, 1, none⟩ = some (str m)
  xs : B ≤ xb ∧ vL.ownBlock ≠ some xb ∧ vM.ownBlock ≠ some xb ∧ v.ownBlock ≠ some xb
  vs : ∀ g, v.ownBlock = some g → vL.ownBlock ≠ some g ∧ vM.ownBlock ≠ some g
  mine : ∀ x ∈ K, ∀ g, v.ownBlock = some g → x.1.ownBlock = some g → x.2 = m ∧ slLen x.1 ≤ N
  size : w0.heap.size ≤ w.heap.size
  io : w.os = w0.os ∧ w.tape = w0.tape ∧ w.output = w0.output
  block : ∀ k, k < w0.heap.size → k ≠ b → vL0.ownBlock ≠ some k → vM0.ownBlock ≠ some k → v.ownBlock ≠ some k → w.heap[k]? = w0.heap[k]?
  newL : ∀ g, g < w0.heap.size → vL0.ownBlock ≠ some g → vL.ownBlock ≠ some g
  newM : ∀ g, g < w0.heap.size → vM0.ownBlock ≠ some g → vM.ownBlock ≠ some g
  newK : ∀ x ∈ K, ∀ g, g < w0.heap.size → x.1.ownBlock = some g → v.ownBlock = some g ∨ ∃ y ∈ K0, y.1.ownBlock = some g

/-- A list is kept. -/
theorem St.keep {w0 w w' : World} {b B : Nat} {vL0 vM0 vL vM vL' vM' v u : Value} {K0 K : List (Value × Bs)} {nx n xb N : Nat} {m : Bs} (S : St w0 w b B vL0 vM0 K0 vL vM K nx v n m xb N)
    (I' : book w' b B vL' vM' (K ++ [(u, m)]) nx) (T : Touch w w' b vL vM vL' vM') (hu : ∀ g, v.ownBlock = some g → u.ownBlock = some g → slLen u ≤ N)
    (hn : ∀ g, g < w0.heap.size → u.ownBlock = some g → v.ownBlock = some g) : St w0 w' b B vL0 vM0 K0 vL' vM' (K ++ [(u, m)]) nx v n m xb N := by
  have hbB := S.I.bB
  have hxl : xb < w.heap.size := World.block_lt_of_cell? w _ S.p0
  have hx : w'.heap[xb]? = w.heap[xb]? := T.block xb hxl (by have := S.xs.1; omega) S.xs.2.1 S.xs.2.2.1
  have hvl := World.ownsRow.lt S.row
  have hsz := S.size
  refine ⟨I', owns_via S.row (fun k hk => T.block k (hvl k hk).2 (by have := (hvl k hk).1; omega) (S.vs k hk).1 (S.vs k hk).2), (World.cell?_of_block (a := ⟨xb, 0, none⟩) hx).trans S.p0, (World.cell?_of_block (a := ⟨xb, 1, none⟩) hx).trans S.p1,
    ⟨S.xs.1, T.newL xb hxl S.xs.2.1, T.newM xb hxl S.xs.2.2.1, S.xs.2.2.2⟩, fun g hg => ⟨T.newL g (hvl g hg).2 (S.vs g hg).1, T.newM g (hvl g hg).2 (S.vs g hg).2⟩, ?_, Nat.le_trans S.size T.size,
    ⟨T.os.trans S.io.1, T.tape.trans S.io.2.1, T.output.trans S.io.2.2⟩, ?_, ?_, ?_, ?_⟩
  · intro x hx g hg hxg
    rcases List.mem_append.1 hx with hx | hx
    · exact S.mine x hx g hg hxg
    · have : x = (u, m) := by simpa using hx
      subst this
      exact ⟨rfl, hu g hg hxg⟩
  · intro k hk h1 h2 h3 h4
    rw [T.block k (by omega) h1 (S.newL k hk h2) (S.newM k hk h3)]
    exact S.block k hk h1 h2 h3 h4
  · intro g hg h2
    exact T.newL g (by omega) (S.newL g hg h2)
  · intro g hg h2
    exact T.newM g (by omega) (S.newM g hg h2)
  · intro x hx g hg hxg
    rcases List.mem_append.1 hx with hx | hx
    · exact S.newK x hx g hg hxg
    · have : x = (u, m) := by simpa using hx
      subst this
      exact .inl (hn g hg hxg)

/-- Pairs are put behind the list. -/
theorem St.app {w0 w w' : World} {b B : Nat} {vL0 vM0 vL vM v v' : Value} {K0 K : List (Value × Bs)} {nx n xb N j : Nat} {m : Bs} {o : Obj} (S : St w0 w b B vL0 vM0 K0 vL vM K nx v n m xb N)
    (A : Appended (w.alloc o) w' B 60 2 v v' n j (pcells (rep n m)) (pcells (rep j m))) (hN : N ≤ n + j) (_hj : 0 < j) (hnj : n + j ≤ 100000000) :
    St w0 w' b B vL0 vM0 K0 vL vM K nx v n m xb (n + j) ∧ keptV w' v' m ∧ (∀ g, v'.ownBlock = some g → B ≤ g ∧ vL.ownBlock ≠ some g ∧ vM.ownBlock ≠ some g) ∧ slLen v' = n + j ∧
      (∀ g, g < w0.heap.size → v'.ownBlock = some g → v.ownBlock = some g) ∧ ∃ a c, v' = .slice a (n + j) c := by
  have hbB := S.I.bB
  have hxl : xb < w.heap.size := World.block_lt_of_cell? w _ S.p0
  have hvl := World.ownsRow.lt S.row
  have hsz := S.size
  have hbw := S.I.lt
  have z1 : w.heap.size + 1 ≤ w'.heap.size := by have := A.size; simpa using this
  have rowv' : prow w' B v' (rep (n + j) m) := by
    have h := A.own
    rw [rep_app] at h
    unfold prow
    simpa using h
  have rowv : prow w' B v (rep n m) := by
    have h := A.old
    unfold prow
    simpa using h
  have s : ∀ k, k < w.heap.size → v.ownBlock ≠ some k → w'.heap[k]? = w.heap[k]? := fun k hk hne => (A.block (k := k) (by simp; omega) hne).trans (heap_alloc_lt hk)
  have hvb : v.ownBlock ≠ some b := fun e => by have := (hvl b e).1; omega
  have new' : ∀ g, g < w.heap.size → v'.ownBlock = some g → v.ownBlock = some g := by
    intro g hg hv'
    refine Classical.byContradiction fun hne => ?_
    exact A.new (g := g) (by simp; omega) hne hv'
  have goodK : ∀ x ∈ K, keptV w' x.1 x.2 := by
    intro x hx
    have hk := S.I.good x hx
    cases hxb : x.1.ownBlock with
    | none => exact hk.via (by omega) (fun k hk' => by rw [hxb] at hk'; cases hk')
    | some g =>
      have hg := hk.blk g hxb
      by_cases hvg : v.ownBlock = some g
      · obtain ⟨e1, e2⟩ := S.mine x hx g hvg hxb
        rw [e1] at hk ⊢
        -- v's block was written, or not
        rcases A.either with ⟨g', h1, h2, _⟩ | ⟨h2, hb'⟩
        · have : g' = g := by rw [hvg] at h1; simpa using h1.symm
          subst this
          exact hk.short hxb rowv' h2 (by omega)
        · exact hk.via (by omega) (fun k hk' => by
            rw [hxb] at hk'
            have : k = g := by simpa using hk'.symm
            subst this
            rw [hb'.block k (by simp; omega), heap_alloc_lt hg])
      · exact hk.via (by omega) (fun k hk' => by
          rw [hxb] at hk'
          have : k = g := by simpa using hk'.symm
          subst this
          exact s k hg hvg)
  have I' : book w' b B vL vM K nx := S.I.via2 (by omega) (s b hbw hvb) (fun k hk => s k (S.I.blkL k hk).2 (fun e => (S.vs k e).1 hk)) (fun k hk => s k (S.I.blkM k hk).2 (fun e => (S.vs k e).2 hk)) goodK
  have hx := s xb hxl S.xs.2.2.2
  obtain ⟨i1, i2, i3⟩ := A.io
  refine ⟨⟨I', rowv, (World.cell?_of_block (a := ⟨xb, 0, none⟩) hx).trans S.p0, (World.cell?_of_block (a := ⟨xb, 1, none⟩) hx).trans S.p1, S.xs, S.vs, fun x hx g hg hxg => ⟨(S.mine x hx g hg hxg).1, by have := (S.mine x hx g hg hxg).2; omega⟩, by omega,
    ⟨i1.trans S.io.1, i2.trans S.io.2.1, i3.trans S.io.2.2⟩, fun k hk h1 h2 h3 h4 => (s k (by omega) h4).trans (S.block k hk h1 h2 h3 h4), S.newL, S.newM, S.newK⟩, rowv'.kept hnj, ?_, ?_, fun g hg => new' g (by omega), ?_⟩
  · intro g hg
    have hl := (World.ownsRow.lt A.own g hg)
    refine ⟨hl.1, ?_, ?_⟩
    · intro e
      have := new' g (S.I.blkL g e).2 hg
      exact (S.vs g this).1 e
    · intro e
      have := new' g (S.I.blkM g e).2 hg
      exact (S.vs g this).2 e
  · have := rowv'.len.1; simpa using this
  · obtain ⟨_, a, c, hv⟩ := rowv'.len
    exact ⟨a, c, by simpa using hv⟩
end Go.Proofs.YtinnliapfdpfpaaDoor.R
