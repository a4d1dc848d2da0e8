/-
  THE LAW'S BOOK: a list is kept.
-/
import Derived.Test.YtinnliapfdpfpaaDoorLBook
namespace Go.Proofs.YtinnliapfdpfpaaDoor.R
open Go.RowKit

theorem keep_end {b B : Nat} {vL vM : Value} {K : List (Value × Bs)} {nx : Nat} {u : Value} {m : Bs} {w w1 w2 : World} {o1 o2 : Obj} {v1 v2 : Value} (I : book w b B vL vM K nx) (hv : keptV w u m)
    (hf : ∀ g, u.ownBlock = some g → B ≤ g ∧ vL.ownBlock ≠ some g ∧ vM.ownBlock ≠ some g)
    (A1 : Appended (w.alloc o1) w1 B 33 1 vL v1 K.length 1 (K.map (·.1)) [u])
    (A2 : Appended ((w1.setCell ⟨b, 0, none⟩ v1).alloc o2) w2 B 9 1 vM v2 (K.map (·.2)).length 1 ((K.map (·.2)).map str) [str m]) :
    book (w2.setCell ⟨b, 1, none⟩ v2) b B v1 v2 (K ++ [(u, m)]) nx ∧ Touch w (w2.setCell ⟨b, 1, none⟩ v2) b vL vM v1 v2 := by
  have hbw := I.lt
  have hbB := I.bB
  have hLb : vL.ownBlock ≠ some b := fun e => by have := (I.blkL b e).1; omega
  have hMb : vM.ownBlock ≠ some b := fun e => by have := (I.blkM b e).1; omega
  have z1 : w.heap.size + 1 ≤ w1.heap.size := by have := A1.size; simpa using this
  have z2 : w1.heap.size + 1 ≤ w2.heap.size := by have := A2.size; simpa using this
  have zW : (w2.setCell ⟨b, 1, none⟩ v2).heap.size = w2.heap.size := by simp
  -- from w1 on
  have s12 : ∀ k, k < w1.heap.size → k ≠ b → vM.ownBlock ≠ some k → (w2.setCell ⟨b, 1, none⟩ v2).heap[k]? = w1.heap[k]? := by
    intro k hk hkb hkM
    rw [heap_set_ne hkb, A2.block (k := k) (by simp; omega) hkM, heap_alloc_lt (by simp; omega), heap_set_ne hkb]
  have s01 : ∀ k, k < w.heap.size → vL.ownBlock ≠ some k → w1.heap[k]? = w.heap[k]? := by
    intro k hk hkL
    rw [A1.block (k := k) (by simp; omega) hkL, heap_alloc_lt hk]
  have s02 : ∀ k, k < w.heap.size → k ≠ b → vL.ownBlock ≠ some k → vM.ownBlock ≠ some k → (w2.setCell ⟨b, 1, none⟩ v2).heap[k]? = w.heap[k]? :=
    fun k hk hkb hkL hkM => (s12 k (by omega) hkb hkM).trans (s01 k hk hkL)
  have n1 : ∀ g, g < w.heap.size → vL.ownBlock ≠ some g → v1.ownBlock ≠ some g := fun g hg hne => A1.new (by simp; omega) hne
  have n2 : ∀ g, g < w1.heap.size → vM.ownBlock ≠ some g → v2.ownBlock ≠ some g := fun g hg hne => A2.new (by simp; omega) hne
  have L1 := World.ownsRow.lt A1.own
  have M2 := World.ownsRow.lt A2.own
  have sM1 : ∀ g, v1.ownBlock = some g → vM.ownBlock ≠ some g := by
    intro g hg hM
    exact n1 g (I.blkM g hM).2 (fun e => I.sep g e hM) hg
  have hb1 := s01 b hbw hLb
  have k0 : w1.cell? ⟨b, 0, none⟩ = some vL := (World.cell?_of_block (a := ⟨b, 0, none⟩) hb1).trans I.c0
  have k1 : w1.cell? ⟨b, 1, none⟩ = some vM := (World.cell?_of_block (a := ⟨b, 1, none⟩) hb1).trans I.c1
  have k2 : w1.cell? ⟨b, 2, none⟩ = some (.int .i64 nx) := (World.cell?_of_block (a := ⟨b, 2, none⟩) hb1).trans I.c2
  have kf : ∀ j : Nat, w1.frozen? ⟨b, j, none⟩ = false := fun j => (World.frozen?_of_block (a := ⟨b, j, none⟩) hb1).trans (I.fz j)
  have hb2 : w2.heap[b]? = (w1.setCell ⟨b, 0, none⟩ v1).heap[b]? := by rw [A2.block (k := b) (by simp; omega) hMb, heap_alloc_lt (by simp; omega)]
  have q0 : w2.cell? ⟨b, 0, none⟩ = some v1 := (World.cell?_of_block (a := ⟨b, 0, none⟩) hb2).trans (by simp [go_sem, k0])
  have q1 : w2.cell? ⟨b, 1, none⟩ = some vM := (World.cell?_of_block (a := ⟨b, 1, none⟩) hb2).trans (by simp [go_sem, k1])
  have q2 : w2.cell? ⟨b, 2, none⟩ = some (.int .i64 nx) := (World.cell?_of_block (a := ⟨b, 2, none⟩) hb2).trans (by simp [go_sem, k2])
  have qf : ∀ j : Nat, w2.frozen? ⟨b, j, none⟩ = false := fun j => (World.frozen?_of_block (a := ⟨b, j, none⟩) hb2).trans (by simp [go_sem, kf])
  have keep : ∀ (x : Value) (y : Bs), keptV w x y → (∀ g, x.ownBlock = some g → B ≤ g ∧ vL.ownBlock ≠ some g ∧ vM.ownBlock ≠ some g) → keptV (w2.setCell ⟨b, 1, none⟩ v2) x y := fun x y hx hy =>
    hx.via (by rw [zW]; omega) (fun k hk => s02 k (hx.blk k hk) (by have := (hy k hk).1; omega) (hy k hk).2.1 (hy k hk).2.2)
  have away : ∀ (x : Value) (y : Bs), keptV w x y → (∀ g, x.ownBlock = some g → B ≤ g ∧ vL.ownBlock ≠ some g ∧ vM.ownBlock ≠ some g) → ∀ g, x.ownBlock = some g → B ≤ g ∧ v1.ownBlock ≠ some g ∧ v2.ownBlock ≠ some g := fun x y hx hy g hg =>
    ⟨(hy g hg).1, n1 g (hx.blk g hg) (hy g hg).2.1, n2 g (by have := hx.blk g hg; omega) (hy g hg).2.2⟩
  refine ⟨⟨by simp [go_sem, q0], by simp [go_sem, q1], by simp [go_sem, q2], fun j => by simp [go_sem, qf], ?_, ?_, hbB, by rw [zW]; have := I.wB; omega, fun g hg => n2 g (L1 g hg).2 (sM1 g hg), ?_, ?_⟩, ?_⟩
  · have := owns_via (w' := w2.setCell ⟨b, 1, none⟩ v2) A1.own (fun k hk => s12 k (L1 k hk).2 (by have := (L1 k hk).1; omega) (sM1 k hk))
    simpa using this
  · have := owns_via (w' := w2.setCell ⟨b, 1, none⟩ v2) A2.own (fun k hk => heap_set_ne (by have := (M2 k hk).1; omega))
    unfold srow
    simpa using this
  · intro x hx
    rcases List.mem_append.1 hx with hx | hx
    · exact keep x.1 x.2 (I.good x hx) (I.far x hx)
    · have : x = (u, m) := by simpa using hx
      subst this
      exact keep u m hv hf
  · intro x hx
    rcases List.mem_append.1 hx with hx | hx
    · exact away x.1 x.2 (I.good x hx) (I.far x hx)
    · have : x = (u, m) := by simpa using hx
      subst this
      exact away u m hv hf
  · obtain ⟨i1, i2, i3⟩ := A1.io
    obtain ⟨j1, j2, j3⟩ := A2.io
    exact ⟨j1.trans i1, j2.trans i2, j3.trans i3, by rw [zW]; omega, s02, n1, fun g hg hne => n2 g (by omega) hne⟩

theorem heap_new_set (w : World) (p : Addr) (x : Value) (o : Obj) : ((w.setCell p x).alloc o).heap[w.heap.size]? = some o := by
  have h := heap_alloc_new (w.setCell p x) o
  rwa [show (w.setCell p x).heap.size = w.heap.size from by simp] at h
set_option maxHeartbeats 2000000 in
theorem keeps_any (b B : Nat) (vL vM : Value) (K : List (Value × Bs)) (nx : Nat) (a : Option Addr) (n c : Nat) (m : Bs) (w : World) (I : book w b B vL vM K nx) (hv : keptV w (.slice a n c) m)
    (hf : ∀ g, (Value.slice a n c).ownBlock = some g → B ≤ g ∧ vL.ownBlock ≠ some g ∧ vM.ownBlock ≠ some g) (hK : K.length ≤ 100000000) :
    Calls Tryd.prog 33 #[.pointer (some ⟨b, 0, none⟩), .slice a n c, str m] w fun e w' =>
      e = .returned (.tuple #[]) ∧ ∃ vL' vM', book w' b B vL' vM' (K ++ [(.slice a n c, m)]) nx ∧ Touch w w' b vL vM vL' vM' := by
  have HI : Hid (book w b B vL vM K nx) := I
  have hbw := I.lt
  have hwB := I.wB
  have hbB := I.bB
  obtain ⟨c0, c1, c2, fz, rL, rM, _, _, sep, _, _⟩ := I
  have HLb : Hid (∀ k, vL.ownBlock = some k → B ≤ k ∧ k < w.heap.size) := HI.out.blkL
  have HMb : Hid (∀ k, vM.ownBlock = some k → B ≤ k ∧ k < w.heap.size) := HI.out.blkM
  have HS : Hid (∀ g, vL.ownBlock = some g → vM.ownBlock ≠ some g) := sep
  clear sep
  have hLb : vL.ownBlock ≠ some b := fun e => by have := (HLb.out b e).1; omega
  go_enter Tryd.func33, Tryd.ntmps33
  go_wp2_with (first
    | (at_builtin; refine lapp_law rfl _ _ rfl B (K.map (·.1)) (.slice a n c) rfl _ rfl K.length (World.ownsRow.alloc rL _) _ rfl _ (heap_alloc_new _ _) (by omega) (by simp; omega) ?_; intro v1 w1 A1
       obtain ⟨g1, cap1, hv1, hg1, hg1'⟩ := A1.own.form (by omega)
       have HA1 : Hid (_) := A1
       have hk1 := A1.block (k := b) (by simp; omega) hLb
       have e0 : w1.cell? ⟨b, 0, none⟩ = some vL := (World.cell?_of_block (a := ⟨b, 0, none⟩) hk1).trans (cell_alloc c0 _)
       have e1 : w1.cell? ⟨b, 1, none⟩ = some vM := (World.cell?_of_block (a := ⟨b, 1, none⟩) hk1).trans (cell_alloc c1 _)
       have ef : ∀ j : Nat, w1.frozen? ⟨b, j, none⟩ = false := fun j => (World.frozen?_of_block (a := ⟨b, j, none⟩) hk1).trans (frozen_alloc hbw fz _ j)
       have z1 : w.heap.size + 1 ≤ w1.heap.size := by have := A1.size; simpa using this
       have rM1 : srow w1 B vM (K.map (·.2)) := owns_via rM (fun k hk => by
         have := (HMb.out k hk).2
         rw [A1.block (k := k) (by simp; omega) (fun e => HS.out k e hk), heap_alloc_lt this])
       have rM2 : ∀ x o, srow ((w1.setCell ⟨b, 0, none⟩ x).alloc o) B vM (K.map (·.2)) := fun x o => srow.alloc (owns_via rM1 (fun k hk => heap_set_ne (by have := (HMb.out k hk).1; omega))) o
       subst hv1
       clear A1 hk1)
    | (at_builtin; refine mapp_law rfl _ _ rfl B (K.map (·.2)) m _ rfl (rM2 _ _) _ rfl _ (heap_new_set _ _ _ _) (by simp; omega) (by simp; omega) ?_; intro v2 w2 A2
       obtain ⟨g2, cap2, hv2, hg2, hg2'⟩ := A2.own.form (by omega)
       have HA2 : Hid (_) := A2
       have hk2 := A2.block (k := b) (by simp; omega) (fun e => by have := (HMb.out b e).1; omega)
       have d1 : w2.cell? ⟨b, 1, none⟩ = some vM := (World.cell?_of_block (a := ⟨b, 1, none⟩) hk2).trans (cell_alloc (by simp [go_sem, e1]) _)
       have df : ∀ j : Nat, w2.frozen? ⟨b, j, none⟩ = false := fun j => (World.frozen?_of_block (a := ⟨b, j, none⟩) hk2).trans (frozen_alloc (by simp; omega) (fun j => by simp [go_sem, ef]) _ j)
       subst hv2
       clear A2 hk2))
  go_end0
  have E := keep_end HI.out hv hf HA1.out HA2.out
  rw [List.length_map] at E
  exact ⟨rfl, _, _, E⟩
end Go.Proofs.YtinnliapfdpfpaaDoor.R
