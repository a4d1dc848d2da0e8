/-
  THE LAW'S BOOK: a list is its owner's: written full, and more put behind it.
-/
import Derived.Test.YtinnliapfdpfpaaDoorLOwn
namespace Go.Proofs.YtinnliapfdpfpaaDoor.R
open Go.RowKit
open Go.Proofs.YtinnliapfdpfpaaDoor.C (grown_trans grown_set grown_then grown_below)

theorem papp2_law {w : World} {ops : Array Oper} {rest : List Oper} {o : Oper} {a : Act} {Q : Exit → Act → World → Prop} (hgd : o.guard = none) (s x : Operand)
    (ho : o.op = .call { callee := .builtin .append, args := #[s, x], argTypes := #[33, 33] })
    (B n j : Nat) (m : Bs) (v : Value) (hs : a.eval s = v) (hown : prow w B v (rep n m)) (H : Nat) (hx : a.eval x = .slice (some ⟨H, 0, none⟩) j j)
    (fr : Nat × Nat) (hblk : w.heap[H]? = some (.cells (pcells (rep j m)).toArray 60 fr)) (hj : 0 < j) (hj3 : j ≤ 3) (hlen : n ≤ 1000000000) (hB : B ≤ w.heap.size)
    (h : ∀ v' w', Appended w w' B 60 2 v v' n j (pcells (rep n m)) (pcells (rep j m)) → wpList Tryd.prog ops Q rest (a.put o.dst v') w') : wpList Tryd.prog ops Q (o :: rest) a w := by
  obtain ⟨i0, hi, hz0, hz1, hz2⟩ := info_parts Tryd.infoP
  have hown' : w.ownsRow B 60 2 v n (pcells (rep n m)) := by have := hown; unfold prow at this; simpa using this
  refine wpList_append_two _ hgd s x 33 ho B 60 i0 (.agg #[.string ⟨#[]⟩, .string ⟨#[]⟩]) 2 32 Tryd.underlying33 hi hz0 hz1 hz2 rfl v n _ hs hown' ⟨H, 0, none⟩ j j (pcells (rep j m)) hx (by rw [pcells_len]; simp)
    (fun i u hu => World.news_of_block hblk i u (by simpa using hu)) ?_ hj (by unfold maxLen; omega) (by omega) hB h
  intro u hu
  unfold pcells at hu
  rw [List.mem_flatMap] at hu
  obtain ⟨p, _, hp⟩ := hu
  simp at hp
  rcases hp with rfl | rfl <;> rfl

/-- While the list is written over: the first k pairs have been written. -/
structure Lp (w wr : World) (b B : Nat) (vL vM : Value) (K : List (Value × Bs)) (nx : Nat) (v : Value) (n : Nat) (m : Bs) (xb k : Nat) (cur : Ps) : Prop where
  I : book wr b B vL vM K nx
  row : prow wr B v cur
  len : cur.length = n
  done : ∀ j, j < k → cur[j]? = some (m, m)
  p0 : wr.cell? ⟨xb, 0, none⟩ = some (str m)
  p1 : wr.cell? ⟨xb, 1, none⟩ = some (str m)
  size : w.heap.size ≤ wr.heap.size
  io : wr.os = w.os ∧ wr.tape = w.tape ∧ wr.output = w.output
  block : ∀ k, k < w.heap.size → k ≠ b → v.ownBlock ≠ some k → wr.heap[k]? = w.heap[k]?
theorem cur_rep {cur : Ps} {n : Nat} {m : Bs} (hl : cur.length = n) (h : ∀ j, j < n → cur[j]? = some (m, m)) : cur = rep n m := by
  apply List.ext_getElem?
  intro i
  by_cases hi : i < n
  · rw [h i hi]; simp [hi]
  · rw [List.getElem?_eq_none (by omega), List.getElem?_eq_none (by simp; omega)]

theorem Lp.step {w wr : World} {b B g c nx n xb k : Nat} {vL vM : Value} {K : List (Value × Bs)} {m : Bs} {cur : Ps} (L : Lp w wr b B vL vM K nx (.slice (some ⟨g, 0, none⟩) n c) n m xb k cur) (hk : k < n) (hx : xb ≠ g)
    (vs : vL.ownBlock ≠ some g ∧ vM.ownBlock ≠ some g) (vk : ∀ x ∈ K, x.1.ownBlock ≠ some g) :
    Lp w ((wr.setCell ⟨g, k * 2, none⟩ (str m)).setCell ⟨g, k * 2 + 1, none⟩ (str m)) b B vL vM K nx (.slice (some ⟨g, 0, none⟩) n c) n m xb (k + 1) (cur.set k (m, m)) := by
  have hbB := L.I.bB
  have hgl := World.ownsRow.lt L.row g rfl
  have hln := L.len
  have s : ∀ j, j ≠ g → ((wr.setCell ⟨g, k * 2, none⟩ (str m)).setCell ⟨g, k * 2 + 1, none⟩ (str m)).heap[j]? = wr.heap[j]? := fun j hj => (heap_set_ne hj).trans (heap_set_ne hj)
  have hz : ((wr.setCell ⟨g, k * 2, none⟩ (str m)).setCell ⟨g, k * 2 + 1, none⟩ (str m)).heap.size = wr.heap.size := by simp
  have hrow : wr.ownsRow B 60 2 (.slice (some ⟨g, 0, none⟩) n c) n (pcells cur) := by have := L.row; unfold prow at this; rwa [hln] at this
  have h1 := (hrow.stored (k * 2) (str m)).1
  have h2 := (h1.stored (k * 2 + 1) (str m)).1
  have hxs := s xb hx
  refine ⟨L.I.via (by rw [hz]; exact Nat.le_refl _) (s b (by omega)) (fun j hj => s j (fun e => vs.1 (by rw [hj, e]))) (fun j hj => s j (fun e => vs.2 (by rw [hj, e]))) (fun x hx j hj => s j (fun e => vk x hx (by rw [hj, e]))), ?_, by simpa using hln, ?_,
    (World.cell?_of_block (a := ⟨xb, 0, none⟩) hxs).trans L.p0, (World.cell?_of_block (a := ⟨xb, 1, none⟩) hxs).trans L.p1, by rw [hz]; exact L.size, L.io, fun j hj h3 h4 => (s j (fun e => h4 (by rw [e]; rfl))).trans (L.block j hj h3 h4)⟩
  · unfold prow
    rw [List.length_set, hln, pcells_set]
    exact h2
  · intro j hj
    by_cases hjk : j = k
    · subst hjk
      rw [List.getElem?_set_self (by omega)]
    · rw [List.getElem?_set_ne (by omega)]
      exact L.done j (by omega)
theorem Lp.St {w wr : World} {b B nx n xb : Nat} {vL vM v : Value} {K : List (Value × Bs)} {m : Bs} {cur : Ps} (L : Lp w wr b B vL vM K nx v n m xb n cur) (hw : book w b B vL vM K (nx - 1)) (hxb : xb = w.heap.size) (hr : ∀ g, v.ownBlock = some g → B ≤ g ∧ g < w.heap.size)
    (vs : ∀ g, v.ownBlock = some g → vL.ownBlock ≠ some g ∧ vM.ownBlock ≠ some g) (vk : ∀ x ∈ K, ∀ g, v.ownBlock = some g → x.1.ownBlock ≠ some g) :
    R.St w wr b B vL vM K vL vM K nx v n m xb n := by
  have e := cur_rep L.len L.done
  have row := L.row
  rw [e] at row
  refine ⟨L.I, row, L.p0, L.p1, ⟨by have := hw.wB; omega, fun h => by have := (hw.blkL xb h).2; omega, fun h => by have := (hw.blkM xb h).2; omega, fun h => by have := (hr xb h).2; omega⟩, vs, fun x hx g hg hxg => absurd hxg (vk x hx g hg), L.size, L.io, fun k hk h1 _ _ h4 => L.block k hk h1 h4, fun _ _ h => h, fun _ _ h => h, fun x hx g _ hxg => .inr ⟨x, hx, hxg⟩⟩

set_option maxHeartbeats 2000000 in
theorem owns_any (b B : Nat) (vL vM : Value) (K : List (Value × Bs)) (nx : Nat) (a : Option Addr) (c : Nat) (l : Ps) (w : World) (I : book w b B vL vM K nx) (hr : prow w B (.slice a l.length c) l)
    (vs : ∀ g, (Value.slice a l.length c).ownBlock = some g → vL.ownBlock ≠ some g ∧ vM.ownBlock ≠ some g) (vk : ∀ x ∈ K, ∀ g, (Value.slice a l.length c).ownBlock = some g → x.1.ownBlock ≠ some g)
    (hK : K.length ≤ 10000000) (hnx : nx ≤ 1000000000) (hl : l.length ≤ 1000000) :
    Calls Tryd.prog 15 #[.pointer (some ⟨b, 0, none⟩), .slice a l.length c] w fun e w' =>
      e = .returned (.tuple #[]) ∧ ∃ vL' vM' K' m xb N, St w w' b B vL vM K vL' vM' K' (nx + 1) (.slice a l.length c) l.length m xb N ∧ K'.length = K.length + 4 := by
  have HI : Hid (book w b B vL vM K nx) := I
  have hbw := I.lt
  have hwB := I.wB
  have hbB := I.bB
  obtain ⟨c0, c1, c2, fz, rL, rM, _, _, sep, good, far⟩ := I
  have DC : Hid (∀ w : World, Calls Tryd.prog 32 #[.int .i64 ((nx : Int) + 1)] w fun e w' => e = .returned (str (Lib.decDigits (nx + 1))) ∧ ∃ m, w' = w.drewN m) := by
    intro w
    have := rdecimal_any (nx + 1) w (by omega)
    simpa using this
  have hdl := dd_len (nx + 1)
  generalize Lib.decDigits (nx + 1) = dd at *
  have HB : (⟨#[35]⟩ : ByteArray) ++ ⟨dd.toArray⟩ = ⟨(35 :: dd).toArray⟩ := by apply ByteArray.ext; simp
  have hdl2 : dd.length ≤ 1000000002 := by omega
  clear hdl
  -- the world ahead of the loop
  have L0 : ∀ k, Lp w (((w.setCell ⟨b, 2, none⟩ (.int .i64 ((nx : Int) + 1))).drewN k).alloc (.cells #[str (35 :: dd), str (35 :: dd)] 60)) b B vL vM K (nx + 1) (.slice a l.length c) l.length (35 :: dd) w.heap.size 0 l := by
    intro k
    have s : ∀ j, j < w.heap.size → j ≠ b → (((w.setCell ⟨b, 2, none⟩ (.int .i64 ((nx : Int) + 1))).drewN k).alloc (.cells #[str (35 :: dd), str (35 :: dd)] 60)).heap[j]? = w.heap[j]? := fun j hj hjb =>
      (heap_alloc_lt (by simp; omega)).trans (heap_set_ne hjb)
    have hz : (((w.setCell ⟨b, 2, none⟩ (.int .i64 ((nx : Int) + 1))).drewN k).alloc (.cells #[str (35 :: dd), str (35 :: dd)] 60)).heap.size = w.heap.size + 1 := by simp
    have hrl := World.ownsRow.lt hr
    refine ⟨⟨cell_alloc (by simp [go_sem, c0]) _, cell_alloc (by simp [go_sem, c1]) _, cell_alloc (by simp [go_sem, c2]) _, frozen_alloc (by simp; omega) (fun j => by simp [go_sem, fz]) _, ?_, ?_, hbB, by rw [hz]; omega, sep, ?_, far⟩, ?_, rfl, fun j hj => absurd hj (by omega), by simp [go_sem], by simp [go_sem], by rw [hz]; omega, ⟨rfl, rfl, rfl⟩, fun j hj h1 _ => s j hj h1⟩
    · exact owns_via rL (fun j hj => s j (HI.out.blkL j hj).2 (by have := (HI.out.blkL j hj).1; omega))
    · exact owns_via rM (fun j hj => s j (HI.out.blkM j hj).2 (by have := (HI.out.blkM j hj).1; omega))
    · intro x hx
      exact (good x hx).via (by rw [hz]; omega) (fun j hj => s j ((good x hx).blk j hj) (by have := (far x hx j hj).1; omega))
    · exact owns_via hr (fun j hj => s j (hrl j hj).2 (by have := (hrl j hj).1; omega))
  have hrl : Hid (∀ g, (Value.slice a l.length c).ownBlock = some g → B ≤ g ∧ g < w.heap.size) := World.ownsRow.lt hr
  have VS : Hid (∀ g, (Value.slice a l.length c).ownBlock = some g → vL.ownBlock ≠ some g ∧ vM.ownBlock ≠ some g) := vs
  have VK : Hid (∀ x ∈ K, ∀ g, (Value.slice a l.length c).ownBlock = some g → x.1.ownBlock ≠ some g) := vk
  clear vs vk good far sep rL rM
  go_enter Tryd.func15, Tryd.ntmps15
  go_wp2_with (go_at_call 32; refine (DC.out _).mono ?_; rintro e w' ⟨rfl, k0, rfl⟩)
  replace L0 := L0 k0
  clear DC c0 c1 c2 fz
  generalize (((w.setCell ⟨b, 2, none⟩ (.int .i64 ((nx : Int) + 1))).drewN k0).alloc (.cells #[str (35 :: dd), str (35 :: dd)] 60)) = w3 at *
  clear HB
  generalize (35 :: dd) = m at *
  go_loopw [6] (fun i wr => ∃ (k : Nat) (cur : Ps), k ≤ l.length ∧ i = .int .i64 k ∧ Lp w wr b B vL vM K (nx + 1) (.slice a l.length c) l.length m w.heap.size k cur) (fun i _ => l.length - (intOf i).toNat)
  case atStart => exact ⟨0, l, Nat.zero_le _, rfl, L0⟩
  case round =>
    obtain ⟨k, cur, hk, rfl, L⟩ := hrel
    clear L0
    by_cases hlt : k < l.length
    · have hfm : ∃ g, a = some ⟨g, 0, none⟩ := by
        obtain ⟨g, cap, hv, _⟩ := World.ownsRow.form L.row (by have := L.len; omega)
        exact ⟨g, by simpa using (Value.slice.inj hv).1⟩
      obtain ⟨g, rfl⟩ := hfm
      have hln := L.len
      have hrow : wr.ownsRow B 60 2 (.slice (some ⟨g, 0, none⟩) l.length c) l.length (pcells cur) := by have := L.row; unfold prow at this; rwa [hln] at this
      obtain ⟨y0, y1⟩ := pcells_at cur k (by omega)
      have c0 := World.ownsRow.cells hrow (g := g) rfl _ _ y0
      have c1 := World.ownsRow.cells hrow (g := g) rfl _ _ y1
      simp only [Addr.add_lit, Nat.zero_add] at c0 c1
      rw [Nat.mul_comm] at c0 c1
      have ff := fun j => World.ownsRow.frozenAt hrow j
      have p0 := L.p0
      have p1 := L.p1
      have LN := L.step hlt (by have := (hrl.out g rfl).2; omega) (VS.out g rfl) (fun x hx => VK.out x hx g rfl)
      have HLN : Hid (_) := LN
      clear LN L hrow
      go_wp2
      go_roundw
      case rel => exact ⟨k + 1, _, by omega, by go_num, HLN.out⟩
      case measure => simp [intOf]; omega
    · have hkn : k = l.length := by omega
      subst hkn
      have S := L.St HI.out rfl hrl.out VS.out VK.out
      clear L
      have hrw : Hid (_) := World.ownsRow.lt S.row
      go_wp2_with fail
      refine (keeps_any b B vL vM K (nx + 1) a l.length c m wr S.I (S.row.kept (by omega)) (fun g hg => ⟨(hrw.out g hg).1, S.vs g hg⟩) (by omega)).mono ?_
      rintro e w5 ⟨rfl, vL1, vM1, I0, T0⟩
      have S1 := S.keep I0 T0 (fun g _ _ => Nat.le_refl _) (fun g _ h => h)
      clear S I0 T0 hrw
      have p0 := S1.p0
      have p1 := S1.p1
      have zB := S1.I.wB
      go_wp2_with (at_builtin; refine papp2_law rfl _ _ rfl B l.length 1 m _ rfl (S1.row.alloc _) _ rfl _ ((heap_alloc_new _ _).trans rfl) (by omega) (by omega) (by omega) (by simp; omega) ?_; intro v6 w6 A1)
      obtain ⟨S2, kv1, far1, len1, new1, a1, c1, rfl⟩ := S1.app A1 (by omega) (by omega) (by omega)
      clear A1 S1 p0 p1 zB
      refine (keeps_any b B vL1 vM1 _ (nx + 1) a1 (l.length + 1) c1 m w6 S2.I kv1 far1 (by simp; omega)).mono ?_
      rintro e w7 ⟨rfl, vL2, vM2, I1, T1⟩
      have S3 := S2.keep I1 T1 (fun g _ _ => by rw [len1]; omega) new1
      clear S2 I1 T1 kv1 far1 len1 new1
      have p0 := S3.p0
      have p1 := S3.p1
      have zB := S3.I.wB
      go_wp2_with (at_builtin; refine papp2_law rfl _ _ rfl B l.length 2 m _ rfl (S3.row.alloc _) _ rfl _ ((heap_alloc_new _ _).trans rfl) (by omega) (by omega) (by omega) (by simp; omega) ?_; intro v8 w8 A2)
      obtain ⟨S4, kv2, far2, len2, new2, a2, c2, rfl⟩ := S3.app A2 (by omega) (by omega) (by omega)
      clear A2 S3 p0 p1 zB
      refine (keeps_any b B vL2 vM2 _ (nx + 1) a2 (l.length + 2) c2 m w8 S4.I kv2 far2 (by simp; omega)).mono ?_
      rintro e w9 ⟨rfl, vL3, vM3, I2, T2⟩
      have S5 := S4.keep I2 T2 (fun g _ _ => by rw [len2]; omega) new2
      clear S4 I2 T2 kv2 far2 len2 new2
      have p0 := S5.p0
      have p1 := S5.p1
      have zB := S5.I.wB
      go_wp2_with (at_builtin; refine papp2_law rfl _ _ rfl B l.length 3 m _ rfl (S5.row.alloc _) _ rfl _ ((heap_alloc_new _ _).trans rfl) (by omega) (by omega) (by omega) (by simp; omega) ?_; intro va wa A3)
      obtain ⟨S6, kv3, far3, len3, new3, a3, c3, rfl⟩ := S5.app A3 (by omega) (by omega) (by omega)
      clear A3 S5 p0 p1 zB
      refine (keeps_any b B vL3 vM3 _ (nx + 1) a3 (l.length + 3) c3 m wa S6.I kv3 far3 (by simp; omega)).mono ?_
      rintro e wb ⟨rfl, vL4, vM4, I3, T3⟩
      have S7 := S6.keep I3 T3 (fun g _ _ => by rw [len3]; omega) new3
      clear S6 I3 T3 kv3 far3 len3 new3
      have HS : Hid (_) := S7
      clear S7
      go_wp2
      go_end0
      exact ⟨rfl, _, _, _, _, _, _, HS.out, by simp⟩
end Go.Proofs.YtinnliapfdpfpaaDoor.R
