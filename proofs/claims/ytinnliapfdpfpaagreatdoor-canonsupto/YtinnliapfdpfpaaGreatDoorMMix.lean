/-
  THE PROGRAM's MIX: one block mixed into a state.
-/
import Derived.Test.YtinnliapfdpfpaaGreatDoorMSched
import Derived.Test.YtinnliapfdpfpaaGreatDoorHDig
namespace Go.Proofs.YtinnliapfdpfpaaGreatDoor
open Go.RowKit
theorem xor_full32 (c : Nat) (hc : c < 4294967296) : c ^^^ 4294967295 = 4294967295 - c := by
  apply Nat.eq_of_testBit_eq
  intro i
  rw [not_bit c i hc, Nat.testBit_xor, show (4294967295 : Nat) = 2 ^ 32 - 1 from rfl, Nat.testBit_two_pow_sub_one]
  by_cases h : i < 32
  · cases c.testBit i <;> simp [h]
  · have : c.testBit i = false := Nat.testBit_lt_two_pow (Nat.lt_of_lt_of_le (by exact hc) (Nat.pow_le_pow_right (by omega) (show 32 ≤ i by omega)))
    simp [h, this]
def u32v (x : Nat) : Value := .int .u32 (x : Int)
/-- The words of the rounds lie where the program has them. -/
def layK (w : World) : Prop := ∀ i, i < 64 → w.cell? ⟨2, i, none⟩ = some (.int .u32 (kL.getD i 0 : Nat))
def z64 : Array Value := #[.int .u32 0, .int .u32 0, .int .u32 0, .int .u32 0, .int .u32 0, .int .u32 0, .int .u32 0, .int .u32 0, .int .u32 0, .int .u32 0, .int .u32 0, .int .u32 0, .int .u32 0, .int .u32 0, .int .u32 0, .int .u32 0, .int .u32 0, .int .u32 0, .int .u32 0, .int .u32 0, .int .u32 0, .int .u32 0, .int .u32 0, .int .u32 0, .int .u32 0, .int .u32 0, .int .u32 0, .int .u32 0, .int .u32 0, .int .u32 0, .int .u32 0, .int .u32 0, .int .u32 0, .int .u32 0, .int .u32 0, .int .u32 0, .int .u32 0, .int .u32 0, .int .u32 0, .int .u32 0, .int .u32 0, .int .u32 0, .int .u32 0, .int .u32 0, .int .u32 0, .int .u32 0, .int .u32 0, .int .u32 0, .int .u32 0, .int .u32 0, .int .u32 0, .int .u32 0, .int .u32 0, .int .u32 0, .int .u32 0, .int .u32 0, .int .u32 0, .int .u32 0, .int .u32 0, .int .u32 0, .int .u32 0, .int .u32 0, .int .u32 0, .int .u32 0]
theorem z64_is : z64 = Array.replicate 64 (.int .u32 0) := rfl
theorem zeros_there1 (w : World) (t : TypeId) : (w.alloc (.cells z64 t)).there w.heap.size 0 64 := by
  intro j hj
  rw [z64_is, Nat.zero_add, zeros_cell w t 64 j hj, zeros_free]
  exact ⟨rfl, rfl⟩
theorem mix_start (a b c d e f g h : Nat) (w : World) (hK : layK w) (hgl : 2 < w.heap.size) (w0 : World) (hw0 : w0 = (w.alloc (.cells #[.int .u32 (a : Nat), .int .u32 (b : Nat), .int .u32 (c : Nat), .int .u32 (d : Nat), .int .u32 (e : Nat), .int .u32 (f : Nat), .int .u32 (g : Nat), .int .u32 (h : Nat)] 172)).alloc (.cells #[.int .u32 0, .int .u32 0, .int .u32 0, .int .u32 0, .int .u32 0, .int .u32 0, .int .u32 0, .int .u32 0] 172)) :
    (w0.cell? ⟨w.heap.size, 0, none⟩ = some (.int .u32 (a : Nat)) ∧ w0.cell? ⟨w.heap.size, 1, none⟩ = some (.int .u32 (b : Nat)) ∧ w0.cell? ⟨w.heap.size, 2, none⟩ = some (.int .u32 (c : Nat)) ∧ w0.cell? ⟨w.heap.size, 3, none⟩ = some (.int .u32 (d : Nat)) ∧
      w0.cell? ⟨w.heap.size, 4, none⟩ = some (.int .u32 (e : Nat)) ∧ w0.cell? ⟨w.heap.size, 5, none⟩ = some (.int .u32 (f : Nat)) ∧ w0.cell? ⟨w.heap.size, 6, none⟩ = some (.int .u32 (g : Nat)) ∧ w0.cell? ⟨w.heap.size, 7, none⟩ = some (.int .u32 (h : Nat))) ∧
    w0.there (w.heap.size + 1) 0 8 ∧ layK w0 ∧ Below w.heap.size w w0 ∧ w0.heap.size = w.heap.size + 2 := by
  subst hw0
  refine ⟨⟨?_, ?_, ?_, ?_, ?_, ?_, ?_, ?_⟩, ?_, ?_, ?_, ?_⟩
  · simp [go_sem]
  · simp [go_sem]
  · simp [go_sem]
  · simp [go_sem]
  · simp [go_sem]
  · simp [go_sem]
  · simp [go_sem]
  · simp [go_sem]
  · intro j hj
    have : j = 0 ∨ j = 1 ∨ j = 2 ∨ j = 3 ∨ j = 4 ∨ j = 5 ∨ j = 6 ∨ j = 7 := by omega
    rcases this with rfl | rfl | rfl | rfl | rfl | rfl | rfl | rfl <;> simp [go_sem]
  · intro i hi
    simp [go_sem, World.cell?_alloc_past, hgl, Nat.lt_succ_of_lt hgl]
    exact hK i hi
  · exact ((Below.refl _ _).alloc (Nat.le_refl _) _).alloc (by simp) _
  · simp
theorem there_cell {w : World} {b n : Nat} (h : w.there b 0 n) (j : Nat) (hj : j < n) : ∃ v, w.cell? ⟨b, j, none⟩ = some v ∧ w.frozen? ⟨b, j, none⟩ = false := by
  obtain ⟨h1, h2⟩ := h j hj
  rw [Nat.zero_add] at h1 h2
  obtain ⟨v, hv⟩ := Option.isSome_iff_exists.1 h1
  exact ⟨v, hv, h2⟩
theorem l8_gets (x a b c y e f g : Nat) : [x, a, b, c, y, e, f, g].getD 0 0 = x ∧ [x, a, b, c, y, e, f, g].getD 1 0 = a ∧ [x, a, b, c, y, e, f, g].getD 2 0 = b ∧ [x, a, b, c, y, e, f, g].getD 3 0 = c ∧ [x, a, b, c, y, e, f, g].getD 4 0 = y ∧ [x, a, b, c, y, e, f, g].getD 5 0 = e ∧ [x, a, b, c, y, e, f, g].getD 6 0 = f ∧ [x, a, b, c, y, e, f, g].getD 7 0 = g := ⟨rfl, rfl, rfl, rfl, rfl, rfl, rfl, rfl⟩
theorem rnd8_gets (a b c d e f g h m : Nat) : (rnd8 a b c d e f g h m).getD 0 0 = (h + bs1 e + chs e f g + m + (bs0 a + mst a b c)) % 4294967296 ∧ (rnd8 a b c d e f g h m).getD 1 0 = a ∧ (rnd8 a b c d e f g h m).getD 2 0 = b ∧ (rnd8 a b c d e f g h m).getD 3 0 = c ∧
    (rnd8 a b c d e f g h m).getD 4 0 = (d + (h + bs1 e + chs e f g + m)) % 4294967296 ∧ (rnd8 a b c d e f g h m).getD 5 0 = e ∧ (rnd8 a b c d e f g h m).getD 6 0 = f ∧ (rnd8 a b c d e f g h m).getD 7 0 = g := by
  unfold rnd8
  exact l8_gets _ _ _ _ _ _ _ _
theorem cmp8 (a b c d e f g h : Nat) (WS v : List Nat) (hr : rnds [a, b, c, d, e, f, g, h] WS 64 = v) : cmpN [a, b, c, d, e, f, g, h] WS 8 = [(a + v.getD 0 0) % 4294967296, (b + v.getD 1 0) % 4294967296, (c + v.getD 2 0) % 4294967296, (d + v.getD 3 0) % 4294967296, (e + v.getD 4 0) % 4294967296, (f + v.getD 5 0) % 4294967296, (g + v.getD 6 0) % 4294967296, (h + v.getD 7 0) % 4294967296] := by
  simp only [cmpN, hr]
  simp
theorem vint {k : IntKind} {a b : Int} (h : a = b) : Value.int k a = Value.int k b := by rw [h]
theorem chs_bits (a b c : Nat) (ha : a < 4294967296) (hb : b < 4294967296) (hc : c < 4294967296) : ∃ A1 A2 N C : Nat, bits .and .u32 (a : Int) (b : Int) = (A1 : Int) ∧ bits .xor .u32 4294967295 (a : Int) = (N : Int) ∧ bits .and .u32 (N : Int) (c : Int) = (A2 : Int) ∧ bits .xor .u32 (A1 : Int) (A2 : Int) = (C : Int) ∧ Hid (C = chs a b c) ∧ C < 4294967296 := by
  refine ⟨a &&& b, (4294967295 - a) &&& c, 4294967295 - a, chs a b c, u32_and_nat a b ha hb, ?_, u32_and_nat _ c (by omega) hc, ?_, rfl, chs_lt a b c hb hc⟩
  · have := u32_xor_nat 4294967295 a (by omega) ha
    rw [Nat.xor_comm, xor_full32 a ha] at this
    exact this
  · rw [u32_xor_nat _ _ (and32 hb) (and32 hc), chs_xor a b c ha]
theorem mst_bits (a b c : Nat) (ha : a < 4294967296) (hb : b < 4294967296) (hc : c < 4294967296) : ∃ M1 M2 M3 M4 M : Nat, bits .and .u32 (a : Int) (b : Int) = (M1 : Int) ∧ bits .and .u32 (a : Int) (c : Int) = (M2 : Int) ∧ bits .xor .u32 (M1 : Int) (M2 : Int) = (M3 : Int) ∧ bits .and .u32 (b : Int) (c : Int) = (M4 : Int) ∧ bits .xor .u32 (M3 : Int) (M4 : Int) = (M : Int) ∧ Hid (M = mst a b c) ∧ M < 4294967296 := by
  refine ⟨a &&& b, a &&& c, (a &&& b) ^^^ (a &&& c), b &&& c, mst a b c, u32_and_nat a b ha hb, u32_and_nat a c ha hc, u32_xor_nat _ _ (and32 hb) (and32 hc), u32_and_nat b c hb hc, ?_, rfl, mst_lt a b c hb hc⟩
  rw [u32_xor_nat _ _ (xor32 (and32 hb) (and32 hc)) (and32 hc), mst_xor]
set_option maxRecDepth 100000 in
set_option maxHeartbeats 400000 in
theorem mix_core (a b c d e f g h : Nat) (ha : a < 4294967296) (hb : b < 4294967296) (hc : c < 4294967296) (hd : d < 4294967296) (he : e < 4294967296) (hf : f < 4294967296) (hg : g < 4294967296) (hh : h < 4294967296)
    (s : ByteArray) (hs : s.size = 64) (w : World) (hK : layK w) (hgl : 2 < w.heap.size) (WS : List Nat) (hW : sch (firsts s.data.toList 0 16) 48 = WS) :
    Calls Tryz.prog 158 #[.agg #[.int .u32 a, .int .u32 b, .int .u32 c, .int .u32 d, .int .u32 e, .int .u32 f, .int .u32 g, .int .u32 h], .string s] w fun e' w' => e' = .returned (.agg ((cmpN [a, b, c, d, e, f, g, h] WS 8).map u32v).toArray) ∧ Below w.heap.size w w' := by
  have hwl : WS.length = 64 := by rw [← hW, sch_len, firsts_len]
  have hws : small WS := by rw [← hW]; exact sch_small (firsts_small _ _ _) _
  have HW : Hid (sch (firsts s.data.toList 0 16) 48 = WS) := hW
  clear hW
  go_enter Tryz.func158, Tryz.ntmps158
  go_wp2_with fail
  obtain ⟨w0, hw0⟩ : ∃ w0, w0 = (w.alloc (.cells #[.int .u32 (a : Nat), .int .u32 (b : Nat), .int .u32 (c : Nat), .int .u32 (d : Nat), .int .u32 (e : Nat), .int .u32 (f : Nat), .int .u32 (g : Nat), .int .u32 (h : Nat)] 172)).alloc (.cells #[.int .u32 0, .int .u32 0, .int .u32 0, .int .u32 0, .int .u32 0, .int .u32 0, .int .u32 0, .int .u32 0] 172) := ⟨_, rfl⟩
  rw [← hw0]
  obtain ⟨cb, th, lk, bl, hz0⟩ := mix_start a b c d e f g h w hK hgl w0 hw0
  clear hw0
  refine (schedule_any s hs _).mono ?_
  rintro e' w1 ⟨rfl, hb1⟩
  rw [HW.out]
  have hsz1 := hb1.size
  rw [hz0] at hsz1 hb1
  clear hz0
  have c0 := (hb1.cell (p := ⟨w.heap.size, 0, none⟩) (show w.heap.size < w.heap.size + 2 by omega)).trans cb.1
  have c1 := (hb1.cell (p := ⟨w.heap.size, 1, none⟩) (show w.heap.size < w.heap.size + 2 by omega)).trans cb.2.1
  have c2 := (hb1.cell (p := ⟨w.heap.size, 2, none⟩) (show w.heap.size < w.heap.size + 2 by omega)).trans cb.2.2.1
  have c3 := (hb1.cell (p := ⟨w.heap.size, 3, none⟩) (show w.heap.size < w.heap.size + 2 by omega)).trans cb.2.2.2.1
  have c4 := (hb1.cell (p := ⟨w.heap.size, 4, none⟩) (show w.heap.size < w.heap.size + 2 by omega)).trans cb.2.2.2.2.1
  have c5 := (hb1.cell (p := ⟨w.heap.size, 5, none⟩) (show w.heap.size < w.heap.size + 2 by omega)).trans cb.2.2.2.2.2.1
  have c6 := (hb1.cell (p := ⟨w.heap.size, 6, none⟩) (show w.heap.size < w.heap.size + 2 by omega)).trans cb.2.2.2.2.2.2.1
  have c7 := (hb1.cell (p := ⟨w.heap.size, 7, none⟩) (show w.heap.size < w.heap.size + 2 by omega)).trans cb.2.2.2.2.2.2.2
  have th1 : w1.there (w.heap.size + 1) 0 8 := fun j hj => by
    have t := th j hj
    rw [hb1.cell (p := ⟨w.heap.size + 1, 0 + j, none⟩) (show w.heap.size + 1 < w.heap.size + 2 by omega), hb1.frozen (p := ⟨w.heap.size + 1, 0 + j, none⟩) (show w.heap.size + 1 < w.heap.size + 2 by omega)]
    exact t
  have lk1 : layK w1 := fun i hi => (hb1.cell (p := ⟨2, i, none⟩) (show 2 < w.heap.size + 2 by omega)).trans (lk i hi)
  have bl1 : Below w.heap.size w w1 := bl.trans (hb1.mono (by omega))
  clear cb th lk bl hb1 hK
  have hthz := zeros_there1 w1 299
  have hlenA : (WS.map (fun x : Nat => Value.int .u32 (x : Int))).toArray.size = 64 := by simp [hwl]
  have HLA : Hid ((WS.map (fun x : Nat => Value.int .u32 (x : Int))).toArray.size = 64) := hlenA
  clear hlenA
  go_wp2_with (first | (refine wpList_store_mid rfl 299 _ _ rfl w1.heap.size 0 (WS.map (fun x : Nat => Value.int .u32 (x : Int))).toArray rfl rfl (by rw [HLA.out]; exact hthz) (by rw [HLA.out]; kernel_rfl) (all_oneCell_toArray (by intro v hv; simp at hv; obtain ⟨x, _, rfl⟩ := hv; rfl)) ?_))
  show Code.wp Tryz.prog _ _ _ (World.setCells (World.alloc w1 (.cells z64 299)) w1.heap.size 0 (WS.map (fun x : Nat => Value.int .u32 (x : Int))))
  have hB2 : Below w1.heap.size w1 (World.setCells (World.alloc w1 (.cells z64 299)) w1.heap.size 0 (WS.map (fun x : Nat => Value.int .u32 (x : Int)))) :=
    ((Below.refl _ _).alloc (Nat.le_refl _) _).trans (below_setCells _ _ _ _ (Nat.le_refl _))
  have hr2 := World.rangeAt_setCells_same (World.alloc w1 (.cells z64 299)) w1.heap.size 0 (WS.map (fun x : Nat => Value.int .u32 (x : Int))) (by have := hthz; rwa [show 64 = (WS.map (fun x : Nat => Value.int .u32 (x : Int))).length from by simp [hwl]] at this)
  generalize World.setCells (World.alloc w1 (.cells z64 299)) w1.heap.size 0 (WS.map (fun x : Nat => Value.int .u32 (x : Int))) = w2 at *
  have d0 := (hB2.cell (p := ⟨w.heap.size, 0, none⟩) (show w.heap.size < w1.heap.size by omega)).trans c0
  have d1 := (hB2.cell (p := ⟨w.heap.size, 1, none⟩) (show w.heap.size < w1.heap.size by omega)).trans c1
  have d2 := (hB2.cell (p := ⟨w.heap.size, 2, none⟩) (show w.heap.size < w1.heap.size by omega)).trans c2
  have d3 := (hB2.cell (p := ⟨w.heap.size, 3, none⟩) (show w.heap.size < w1.heap.size by omega)).trans c3
  have d4 := (hB2.cell (p := ⟨w.heap.size, 4, none⟩) (show w.heap.size < w1.heap.size by omega)).trans c4
  have d5 := (hB2.cell (p := ⟨w.heap.size, 5, none⟩) (show w.heap.size < w1.heap.size by omega)).trans c5
  have d6 := (hB2.cell (p := ⟨w.heap.size, 6, none⟩) (show w.heap.size < w1.heap.size by omega)).trans c6
  have d7 := (hB2.cell (p := ⟨w.heap.size, 7, none⟩) (show w.heap.size < w1.heap.size by omega)).trans c7
  have lk2 : layK w2 := fun i hi => (hB2.cell (p := ⟨2, i, none⟩) (show 2 < w1.heap.size by omega)).trans (lk1 i hi)
  have th2 : w2.there (w.heap.size + 1) 0 8 := fun j hj => by
    have t := th1 j hj
    rw [hB2.cell (p := ⟨w.heap.size + 1, 0 + j, none⟩) (show w.heap.size + 1 < w1.heap.size by omega), hB2.frozen (p := ⟨w.heap.size + 1, 0 + j, none⟩) (show w.heap.size + 1 < w1.heap.size by omega)]
    exact t
  have bl2 := bl1.trans (hB2.mono bl1.size)
  have wc : ∀ i, i < 64 → w2.cell? ⟨w1.heap.size, i, none⟩ = some (.int .u32 (WS.getD i 0 : Nat)) := fun i hi => by
    have t := hr2 i (.int .u32 (WS.getD i 0 : Nat)) (by rw [List.getElem?_map, List.getElem?_eq_getElem (show i < WS.length by omega), List.getD_eq_getElem?_getD, List.getElem?_eq_getElem (show i < WS.length by omega)]; rfl)
    rwa [Nat.zero_add] at t
  obtain ⟨B5, hB5⟩ : ∃ B5, B5 = w1.heap.size := ⟨_, rfl⟩
  rw [← hB5] at wc ⊢
  clear hB5 hB2 hr2 hthz HLA c0 c1 c2 c3 c4 c5 c6 c7 lk1 th1 bl1
  go_quiet (fail)
  go_wp2_with fail
  obtain ⟨n1, hn1⟩ : ∃ n1, n1 = nq := ⟨_, rfl⟩
  rw [← hn1]
  clear hn1 nq
  go_quiet (fail)
  go_wp2_with fail
  have hst : small [a, b, c, d, e, f, g, h] := by
    have e1 : [a, b, c, d, e, f, g, h] = [] ++ [a] ++ [b] ++ [c] ++ [d] ++ [e] ++ [f] ++ [g] ++ [h] := rfl
    rw [e1]
    exact small_snoc (small_snoc (small_snoc (small_snoc (small_snoc (small_snoc (small_snoc (small_snoc small_nil ha) hb) hc) hd) he) hf) hg) hh
  go_loopw [6, 7, 8, 9, 10, 11, 12, 13, 37] (fun a' b' c' d' e' f' g' h' i wr => ∃ k : Nat, k ≤ 64 ∧ i = .int .i64 k ∧ a' = u32v ((rnds [a, b, c, d, e, f, g, h] WS k).getD 0 0) ∧ b' = u32v ((rnds [a, b, c, d, e, f, g, h] WS k).getD 1 0) ∧ c' = u32v ((rnds [a, b, c, d, e, f, g, h] WS k).getD 2 0) ∧ d' = u32v ((rnds [a, b, c, d, e, f, g, h] WS k).getD 3 0) ∧
      e' = u32v ((rnds [a, b, c, d, e, f, g, h] WS k).getD 4 0) ∧ f' = u32v ((rnds [a, b, c, d, e, f, g, h] WS k).getD 5 0) ∧ g' = u32v ((rnds [a, b, c, d, e, f, g, h] WS k).getD 6 0) ∧ h' = u32v ((rnds [a, b, c, d, e, f, g, h] WS k).getD 7 0) ∧ ∃ n, wr = w2.drewN n) (fun _ _ _ _ _ _ _ _ i _ => 64 - (intOf i).toNat)
  case atStart => exact ⟨0, by omega, rfl, rfl, rfl, rfl, rfl, rfl, rfl, rfl, rfl, _, World.drewN_drewN _ _ _⟩
  case round =>
    obtain ⟨k, hk, rfl, rfl, rfl, rfl, rfl, rfl, rfl, rfl, rfl, n, hwr⟩ := hrel
    have hrs := rnds_small hst WS k
    have HR : Hid (rnds [a, b, c, d, e, f, g, h] WS (k + 1) = rndL (rnds [a, b, c, d, e, f, g, h] WS k) (kL.getD k 0 + WS.getD k 0)) := rfl
    have HRK : Hid (k = 64 → rnds [a, b, c, d, e, f, g, h] WS 64 = rnds [a, b, c, d, e, f, g, h] WS k) := fun e => by rw [e]
    unfold rndL at HR
    have b0 := hrs 0
    have b1 := hrs 1
    have b2 := hrs 2
    have b3 := hrs 3
    have b4 := hrs 4
    have b5 := hrs 5
    have b6 := hrs 6
    have b7 := hrs 7
    generalize rnds [a, b, c, d, e, f, g, h] WS k = v at *
    by_cases hkl : k < 64
    · have ck := lk2 k hkl
      have cw := wc k hkl
      have bk := kL_small k
      have bw := hws k
      generalize kL.getD k 0 = yk at *
      generalize WS.getD k 0 = yw at *
      generalize v.getD 0 0 = v0 at *
      generalize v.getD 1 0 = v1 at *
      generalize v.getD 2 0 = v2 at *
      generalize v.getD 3 0 = v3 at *
      generalize v.getD 4 0 = v4 at *
      generalize v.getD 5 0 = v5 at *
      generalize v.getD 6 0 = v6 at *
      generalize v.getD 7 0 = v7 at *
      unfold u32v at *
      have ck' : wr.cell? ⟨2, k, none⟩ = some (.int .u32 (yk : Nat)) := by rw [hwr]; exact ck
      have cw' : wr.cell? ⟨B5, k, none⟩ = some (.int .u32 (yw : Nat)) := by rw [hwr]; exact cw
      have HWR : Hid (wr = w2.drewN n) := hwr
      clear hwr ck cw HRK lk2 wc d0 d1 d2 d3 d4 d5 d6 d7 th2 bl2 hst hrs
      have k0 : (0 : Int) ≤ (k : Int) := by omega
      have k1 : (k : Int) < 64 := by omega
      have hdk : decide ((k : Int) < 64) = true := by simp; omega
      obtain ⟨A1, A2, N, C, r1, r2, r3, r4, HC, bC⟩ := chs_bits v4 v5 v6 b4 b5 b6
      obtain ⟨M1, M2, M3, M4, M, r5, r6, r7, r8, r9, HM, bM⟩ := mst_bits v0 v1 v2 b0 b1 b2
      have hsg : IntKind.u32.signed = false := rfl
      have hmx : IntKind.u32.max = 4294967295 := by simp [IntKind.signed, IntKind.max, IntKind.bits]
      go_wp2_with fail
      go_quiet ((go_at_call 216; exact Calls.quiet_of_same (sigB1 _ b4 _)))
      go_wp2_with fail
      refine (sigB0 _ b0 _).mono ?_
      rintro e' w' ⟨rfl, rfl⟩
      go_wp2_with fail
      have s1 := bs1_lt v4 b4
      have s0 := bs0_lt v0 b0
      obtain ⟨G0, G1, G2, G3, G4, G5, G6, G7⟩ := rnd8_gets v0 v1 v2 v3 v4 v5 v6 v7 (yk + yw)
      go_roundw
      case rel =>
        refine ⟨k + 1, by omega, by go_num, ?_, ?_, ?_, ?_, ?_, ?_, ?_, ?_, n + nq, by rw [HWR.out]; exact World.drewN_drewN _ _ _⟩
        all_goals rw [HR.out]
        · rw [G0]; exact vint (by rw [← HC.out, ← HM.out]; omega)
        · rw [G1]
        · rw [G2]
        · rw [G3]
        · rw [G4]; exact vint (by rw [← HC.out]; omega)
        · rw [G5]
        · rw [G6]
        · rw [G7]
      case measure => simp [intOf]; omega
    · have hrk := HRK.out (by omega)
      have HFIN : Hid ((cmpN [a, b, c, d, e, f, g, h] WS 8).map u32v = [.int .u32 (((a : Int) + (v.getD 0 0 : Nat)) % 4294967296), .int .u32 (((b : Int) + (v.getD 1 0 : Nat)) % 4294967296), .int .u32 (((c : Int) + (v.getD 2 0 : Nat)) % 4294967296), .int .u32 (((d : Int) + (v.getD 3 0 : Nat)) % 4294967296),
          .int .u32 (((e : Int) + (v.getD 4 0 : Nat)) % 4294967296), .int .u32 (((f : Int) + (v.getD 5 0 : Nat)) % 4294967296), .int .u32 (((g : Int) + (v.getD 6 0 : Nat)) % 4294967296), .int .u32 (((h : Int) + (v.getD 7 0 : Nat)) % 4294967296)]) := by
        show _ = _
        rw [cmp8 a b c d e f g h WS v hrk]
        simp [u32v]
      clear hrk HRK HR
      generalize v.getD 0 0 = v0 at *
      generalize v.getD 1 0 = v1 at *
      generalize v.getD 2 0 = v2 at *
      generalize v.getD 3 0 = v3 at *
      generalize v.getD 4 0 = v4 at *
      generalize v.getD 5 0 = v5 at *
      generalize v.getD 6 0 = v6 at *
      generalize v.getD 7 0 = v7 at *
      have q0 : wr.cell? ⟨w.heap.size, 0, none⟩ = some (.int .u32 (a : Nat)) := by rw [hwr]; exact d0
      have q1 : wr.cell? ⟨w.heap.size, 1, none⟩ = some (.int .u32 (b : Nat)) := by rw [hwr]; exact d1
      have q2 : wr.cell? ⟨w.heap.size, 2, none⟩ = some (.int .u32 (c : Nat)) := by rw [hwr]; exact d2
      have q3 : wr.cell? ⟨w.heap.size, 3, none⟩ = some (.int .u32 (d : Nat)) := by rw [hwr]; exact d3
      have q4 : wr.cell? ⟨w.heap.size, 4, none⟩ = some (.int .u32 (e : Nat)) := by rw [hwr]; exact d4
      have q5 : wr.cell? ⟨w.heap.size, 5, none⟩ = some (.int .u32 (f : Nat)) := by rw [hwr]; exact d5
      have q6 : wr.cell? ⟨w.heap.size, 6, none⟩ = some (.int .u32 (g : Nat)) := by rw [hwr]; exact d6
      have q7 : wr.cell? ⟨w.heap.size, 7, none⟩ = some (.int .u32 (h : Nat)) := by rw [hwr]; exact d7
      have thr : wr.there (w.heap.size + 1) 0 8 := by rw [hwr]; exact th2
      have blr : Below w.heap.size w wr := by rw [hwr]; exact below_drewN bl2 n
      clear hwr lk2 wc d0 d1 d2 d3 d4 d5 d6 d7 th2 bl2 hst hrs
      have hdk : decide ((k : Int) < 64) = false := by simp; omega
      obtain ⟨x0, y0, z0⟩ := there_cell thr 0 (by omega)
      obtain ⟨x1, y1, z1⟩ := there_cell thr 1 (by omega)
      obtain ⟨x2, y2, z2⟩ := there_cell thr 2 (by omega)
      obtain ⟨x3, y3, z3⟩ := there_cell thr 3 (by omega)
      obtain ⟨x4, y4, z4⟩ := there_cell thr 4 (by omega)
      obtain ⟨x5, y5, z5⟩ := there_cell thr 5 (by omega)
      obtain ⟨x6, y6, z6⟩ := there_cell thr 6 (by omega)
      obtain ⟨x7, y7, z7⟩ := there_cell thr 7 (by omega)
      have HTH : Hid (wr.there (w.heap.size + 1) 0 8) := thr
      clear thr
      unfold u32v at *
      go_wp2_with fail
      show bodyPost Tryz.prog _ _ _ _ (wr.setCells (w.heap.size + 1) 0 [.int .u32 (((a : Int) + (v0 : Int)) % 4294967296), .int .u32 (((b : Int) + (v1 : Int)) % 4294967296), .int .u32 (((c : Int) + (v2 : Int)) % 4294967296), .int .u32 (((d : Int) + (v3 : Int)) % 4294967296), .int .u32 (((e : Int) + (v4 : Int)) % 4294967296), .int .u32 (((f : Int) + (v5 : Int)) % 4294967296), .int .u32 (((g : Int) + (v6 : Int)) % 4294967296), .int .u32 (((h : Int) + (v7 : Int)) % 4294967296)])
      have hr2 := World.rangeAt_setCells_same wr (w.heap.size + 1) 0 [.int .u32 (((a : Int) + (v0 : Int)) % 4294967296), .int .u32 (((b : Int) + (v1 : Int)) % 4294967296), .int .u32 (((c : Int) + (v2 : Int)) % 4294967296), .int .u32 (((d : Int) + (v3 : Int)) % 4294967296), .int .u32 (((e : Int) + (v4 : Int)) % 4294967296), .int .u32 (((f : Int) + (v5 : Int)) % 4294967296), .int .u32 (((g : Int) + (v6 : Int)) % 4294967296), .int .u32 (((h : Int) + (v7 : Int)) % 4294967296)] HTH.out
      generalize hlst : ([.int .u32 (((a : Int) + (v0 : Int)) % 4294967296), .int .u32 (((b : Int) + (v1 : Int)) % 4294967296), .int .u32 (((c : Int) + (v2 : Int)) % 4294967296), .int .u32 (((d : Int) + (v3 : Int)) % 4294967296), .int .u32 (((e : Int) + (v4 : Int)) % 4294967296), .int .u32 (((f : Int) + (v5 : Int)) % 4294967296), .int .u32 (((g : Int) + (v6 : Int)) % 4294967296), .int .u32 (((h : Int) + (v7 : Int)) % 4294967296)] : List Value) = lst at *
      have hll : lst.length = 8 := by rw [← hlst]; rfl
      refine bodyPost_ret (v := .agg lst.toArray) (results_cell rfl _ _ _ (w.heap.size + 1) 0 rfl _ (run_loadVar_mid _ _ _ _ _ _ hr2 Tryz.underlying172 rfl (by rw [hll]; kernel_rfl))) rfl ⟨?_, ?_⟩
      · have e1 : (cmpN [a, b, c, d, e, f, g, h] WS 8).map u32v = lst := HFIN.out
        rw [e1]
      · exact blr.trans (below_setCells _ _ _ _ (by omega))
end Go.Proofs.YtinnliapfdpfpaaGreatDoor
