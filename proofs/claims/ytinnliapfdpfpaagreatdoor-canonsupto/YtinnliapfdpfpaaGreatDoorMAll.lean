/-
  THE PROGRAM's mixAll: whole blocks mixed into a state.
-/
import Derived.Test.YtinnliapfdpfpaaGreatDoorMMix
namespace Go.Proofs.YtinnliapfdpfpaaGreatDoor
open Go.RowKit
theorem eight {h : List Nat} (hl : h.length = 8) : ∃ a b c d e f g i : Nat, h = [a, b, c, d, e, f, g, i] := by
  match h, hl with
  | [a, b, c, d, e, f, g, i], _ => exact ⟨a, b, c, d, e, f, g, i, rfl⟩
theorem small8 {a b c d e f g i : Nat} (h : small [a, b, c, d, e, f, g, i]) : a < 4294967296 ∧ b < 4294967296 ∧ c < 4294967296 ∧ d < 4294967296 ∧ e < 4294967296 ∧ f < 4294967296 ∧ g < 4294967296 ∧ i < 4294967296 := by
  obtain ⟨g0, g1, g2, g3, g4, g5, g6, g7⟩ := l8_gets a b c d e f g i
  exact ⟨by have := h 0; rwa [g0] at this, by have := h 1; rwa [g1] at this, by have := h 2; rwa [g2] at this, by have := h 3; rwa [g3] at this, by have := h 4; rwa [g4] at this, by have := h 5; rwa [g5] at this, by have := h 6; rwa [g6] at this, by have := h 7; rwa [g7] at this⟩
theorem mix8 (a b c d e f g h y0 y1 y2 y3 y4 y5 y6 y7 : Nat) (hs : small [a, b, c, d, e, f, g, h]) (s : ByteArray) (hz : s.size = 64) (w : World) (hK : layK w) (hgl : 2 < w.heap.size)
    (hY : cmpN [a, b, c, d, e, f, g, h] (sch (firsts s.data.toList 0 16) 48) 8 = [y0, y1, y2, y3, y4, y5, y6, y7]) :
    Calls Tryz.prog 158 #[.agg #[.int .u32 a, .int .u32 b, .int .u32 c, .int .u32 d, .int .u32 e, .int .u32 f, .int .u32 g, .int .u32 h], .string s] w fun e' w' => e' = .returned (.agg #[.int .u32 y0, .int .u32 y1, .int .u32 y2, .int .u32 y3, .int .u32 y4, .int .u32 y5, .int .u32 y6, .int .u32 y7]) ∧ Below w.heap.size w w' := by
  obtain ⟨b0, b1, b2, b3, b4, b5, b6, b7⟩ := small8 hs
  refine (mix_core a b c d e f g h b0 b1 b2 b3 b4 b5 b6 b7 s hz w hK hgl _ rfl).mono ?_
  rintro e' w' ⟨rfl, hb⟩
  refine ⟨?_, hb⟩
  rw [hY]; rfl
theorem byteAt_cut (l : List UInt8) (p n i : Nat) (hi : i < n) : byteAt ((l.drop p).take n) i = byteAt l (p + i) := by
  unfold byteAt
  simp [List.getD_eq_getElem?_getD, hi]
theorem wpart_cut (l : List UInt8) (p n q k : Nat) (h : q + k ≤ n) : wpart ((l.drop p).take n) q k = wpart l (p + q) k := by
  induction k with
  | zero => rfl
  | succ k ih => simp only [wpart]; rw [ih (by omega), byteAt_cut l p n (q + k) (by omega), Nat.add_assoc]
theorem firsts_cut (l : List UInt8) (p k : Nat) (hk : k ≤ 16) : firsts ((l.drop p).take 64) 0 k = firsts l p k := by
  induction k with
  | zero => rfl
  | succ k ih => simp only [firsts]; rw [ih (by omega), wpart_cut l p 64 (0 + 4 * k) 4 (by omega), Nat.zero_add]
theorem cut_list (l : List UInt8) (p n : Nat) : ((⟨l.toArray⟩ : ByteArray).extract p (p + n)).data.toList = (l.drop p).take n := by
  simp [List.extract_eq_take_drop]
theorem cut_size (l : List UInt8) (p n : Nat) (h : p + n ≤ l.length) : ((⟨l.toArray⟩ : ByteArray).extract p (p + n)).size = n := by
  simp [ByteArray.size]; omega
theorem box_facts {x0 x1 x2 x3 x4 x5 x6 x7 B n : Nat} {wr w' : World} (har : arr32 wr B (fOf [x0, x1, x2, x3, x4, x5, x6, x7]) 8) (hb : Below n wr w') (hB : B < n) :
    w'.cell? ⟨B, 0, none⟩ = some (.int .u32 (x0 : Nat)) ∧ w'.cell? ⟨B, 1, none⟩ = some (.int .u32 (x1 : Nat)) ∧ w'.cell? ⟨B, 2, none⟩ = some (.int .u32 (x2 : Nat)) ∧ w'.cell? ⟨B, 3, none⟩ = some (.int .u32 (x3 : Nat)) ∧ w'.cell? ⟨B, 4, none⟩ = some (.int .u32 (x4 : Nat)) ∧ w'.cell? ⟨B, 5, none⟩ = some (.int .u32 (x5 : Nat)) ∧ w'.cell? ⟨B, 6, none⟩ = some (.int .u32 (x6 : Nat)) ∧ w'.cell? ⟨B, 7, none⟩ = some (.int .u32 (x7 : Nat)) ∧
    w'.frozen? ⟨B, 0, none⟩ = false ∧ w'.frozen? ⟨B, 1, none⟩ = false ∧ w'.frozen? ⟨B, 2, none⟩ = false ∧ w'.frozen? ⟨B, 3, none⟩ = false ∧ w'.frozen? ⟨B, 4, none⟩ = false ∧ w'.frozen? ⟨B, 5, none⟩ = false ∧ w'.frozen? ⟨B, 6, none⟩ = false ∧ w'.frozen? ⟨B, 7, none⟩ = false := by
  obtain ⟨g0, g1, g2, g3, g4, g5, g6, g7⟩ := l8_gets x0 x1 x2 x3 x4 x5 x6 x7
  have K : ∀ j, j < 8 → w'.cell? ⟨B, j, none⟩ = some (.int .u32 (fOf [x0, x1, x2, x3, x4, x5, x6, x7] j : Nat)) ∧ w'.frozen? ⟨B, j, none⟩ = false := fun j hj =>
    ⟨(hb.cell (p := ⟨B, j, none⟩) hB).trans (har j hj).1, (hb.frozen (p := ⟨B, j, none⟩) hB).trans (har j hj).2⟩
  unfold fOf at K
  refine ⟨?_, ?_, ?_, ?_, ?_, ?_, ?_, ?_, (K 0 (by omega)).2, (K 1 (by omega)).2, (K 2 (by omega)).2, (K 3 (by omega)).2, (K 4 (by omega)).2, (K 5 (by omega)).2, (K 6 (by omega)).2, (K 7 (by omega)).2⟩
  · have := (K 0 (by omega)).1; rwa [g0] at this
  · have := (K 1 (by omega)).1; rwa [g1] at this
  · have := (K 2 (by omega)).1; rwa [g2] at this
  · have := (K 3 (by omega)).1; rwa [g3] at this
  · have := (K 4 (by omega)).1; rwa [g4] at this
  · have := (K 5 (by omega)).1; rwa [g5] at this
  · have := (K 6 (by omega)).1; rwa [g6] at this
  · have := (K 7 (by omega)).1; rwa [g7] at this
theorem there_below {w w' : World} {b n k : Nat} (h : w.there b 0 n) (hb : Below k w w') (hk : b < k) : w'.there b 0 n := fun j hj => by
  rw [hb.cell (p := ⟨b, 0 + j, none⟩) hk, hb.frozen (p := ⟨b, 0 + j, none⟩) hk]; exact h j hj
theorem there_keep {wr w' : World} {B n k : Nat} {f : Nat → Nat} (har : arr32 wr B f n) (hb : Below k wr w') (hk : B < k) : w'.there B 0 n := there_below (fun j hj => by
  rw [Nat.zero_add]; obtain ⟨h1, h2⟩ := har j hj; rw [h1, h2]; exact ⟨rfl, rfl⟩) hb hk
theorem box_store {w' : World} {B y0 y1 y2 y3 y4 y5 y6 y7 : Nat} (th : w'.there B 0 8) : arr32 (w'.setCells B 0 [.int .u32 (y0 : Nat), .int .u32 (y1 : Nat), .int .u32 (y2 : Nat), .int .u32 (y3 : Nat), .int .u32 (y4 : Nat), .int .u32 (y5 : Nat), .int .u32 (y6 : Nat), .int .u32 (y7 : Nat)]) B (fOf [y0, y1, y2, y3, y4, y5, y6, y7]) 8 := by
  intro j hj
  have hr := World.rangeAt_setCells_same w' B 0 [.int .u32 (y0 : Nat), .int .u32 (y1 : Nat), .int .u32 (y2 : Nat), .int .u32 (y3 : Nat), .int .u32 (y4 : Nat), .int .u32 (y5 : Nat), .int .u32 (y6 : Nat), .int .u32 (y7 : Nat)] th
  have ht := World.there_setCells th B 0 [.int .u32 (y0 : Nat), .int .u32 (y1 : Nat), .int .u32 (y2 : Nat), .int .u32 (y3 : Nat), .int .u32 (y4 : Nat), .int .u32 (y5 : Nat), .int .u32 (y6 : Nat), .int .u32 (y7 : Nat)] j hj
  rw [Nat.zero_add] at ht
  refine ⟨?_, ht.2⟩
  obtain ⟨g0, g1, g2, g3, g4, g5, g6, g7⟩ := l8_gets y0 y1 y2 y3 y4 y5 y6 y7
  unfold fOf
  have : j = 0 ∨ j = 1 ∨ j = 2 ∨ j = 3 ∨ j = 4 ∨ j = 5 ∨ j = 6 ∨ j = 7 := by omega
  rcases this with rfl | rfl | rfl | rfl | rfl | rfl | rfl | rfl
  · rw [g0]; exact hr 0 _ rfl
  · rw [g1]; exact hr 1 _ rfl
  · rw [g2]; exact hr 2 _ rfl
  · rw [g3]; exact hr 3 _ rfl
  · rw [g4]; exact hr 4 _ rfl
  · rw [g5]; exact hr 5 _ rfl
  · rw [g6]; exact hr 6 _ rfl
  · rw [g7]; exact hr 7 _ rfl
theorem box_arr (a b c d e f g h : Nat) (w w0 : World) (hw0 : w0 = (w.alloc (.cells #[.int .u32 (a : Nat), .int .u32 (b : Nat), .int .u32 (c : Nat), .int .u32 (d : Nat), .int .u32 (e : Nat), .int .u32 (f : Nat), .int .u32 (g : Nat), .int .u32 (h : Nat)] 172)).alloc (.cells #[.int .u32 0, .int .u32 0, .int .u32 0, .int .u32 0, .int .u32 0, .int .u32 0, .int .u32 0, .int .u32 0] 172))
    (cb : w0.cell? ⟨w.heap.size, 0, none⟩ = some (.int .u32 (a : Nat)) ∧ w0.cell? ⟨w.heap.size, 1, none⟩ = some (.int .u32 (b : Nat)) ∧ w0.cell? ⟨w.heap.size, 2, none⟩ = some (.int .u32 (c : Nat)) ∧ w0.cell? ⟨w.heap.size, 3, none⟩ = some (.int .u32 (d : Nat)) ∧
      w0.cell? ⟨w.heap.size, 4, none⟩ = some (.int .u32 (e : Nat)) ∧ w0.cell? ⟨w.heap.size, 5, none⟩ = some (.int .u32 (f : Nat)) ∧ w0.cell? ⟨w.heap.size, 6, none⟩ = some (.int .u32 (g : Nat)) ∧ w0.cell? ⟨w.heap.size, 7, none⟩ = some (.int .u32 (h : Nat))) :
    arr32 w0 w.heap.size (fOf [a, b, c, d, e, f, g, h]) 8 := by
  intro j hj
  have fz : w0.frozen? ⟨w.heap.size, j, none⟩ = false := by
    rw [hw0]; simp [go_sem]
  refine ⟨?_, fz⟩
  obtain ⟨g0, g1, g2, g3, g4, g5, g6, g7⟩ := l8_gets a b c d e f g h
  obtain ⟨c0, c1, c2, c3, c4, c5, c6, c7⟩ := cb
  unfold fOf
  have : j = 0 ∨ j = 1 ∨ j = 2 ∨ j = 3 ∨ j = 4 ∨ j = 5 ∨ j = 6 ∨ j = 7 := by omega
  rcases this with rfl | rfl | rfl | rfl | rfl | rfl | rfl | rfl
  · rw [g0]; exact c0
  · rw [g1]; exact c1
  · rw [g2]; exact c2
  · rw [g3]; exact c3
  · rw [g4]; exact c4
  · rw [g5]; exact c5
  · rw [g6]; exact c6
  · rw [g7]; exact c7
set_option maxRecDepth 100000 in
set_option maxHeartbeats 1000000 in
theorem mixAll_core (a b c d e f g h : Nat) (hst : small [a, b, c, d, e, f, g, h]) (l : List UInt8) (hl : l.length % 64 = 0) (hl2 : l.length ≤ 500000000000000) (w : World) (hK : layK w) (hgl : 2 < w.heap.size) :
    Calls Tryz.prog 145 #[.agg #[.int .u32 a, .int .u32 b, .int .u32 c, .int .u32 d, .int .u32 e, .int .u32 f, .int .u32 g, .int .u32 h], .string ⟨l.toArray⟩] w fun e' w' => e' = .returned (.agg ((mixN l [a, b, c, d, e, f, g, h] (l.length / 64)).map u32v).toArray) ∧ Below w.heap.size w w' := by
  obtain ⟨w0, hw0⟩ : ∃ w0, w0 = (w.alloc (.cells #[.int .u32 (a : Nat), .int .u32 (b : Nat), .int .u32 (c : Nat), .int .u32 (d : Nat), .int .u32 (e : Nat), .int .u32 (f : Nat), .int .u32 (g : Nat), .int .u32 (h : Nat)] 172)).alloc (.cells #[.int .u32 0, .int .u32 0, .int .u32 0, .int .u32 0, .int .u32 0, .int .u32 0, .int .u32 0, .int .u32 0] 172) := ⟨_, rfl⟩
  obtain ⟨cb, th, lk, bl, hz0⟩ := mix_start a b c d e f g h w hK hgl w0 hw0
  have ar0 : arr32 w0 w.heap.size (fOf [a, b, c, d, e, f, g, h]) 8 := box_arr a b c d e f g h w w0 hw0 cb
  have HN : Hid (l.length / 64 * 64 = l.length) := by show _ = _; omega
  go_enter Tryz.func145, Tryz.ntmps145
  go_wp2
  rw [← hw0]
  clear hw0 cb lk
  go_loopw [5] (fun i wr => ∃ n : Nat, 64 * n ≤ l.length ∧ i = .int .i64 (64 * (n : Int)) ∧ arr32 wr w.heap.size (fOf (mixN l [a, b, c, d, e, f, g, h] n)) 8 ∧ wr.there (w.heap.size + 1) 0 8 ∧ Below w.heap.size w wr ∧ w.heap.size + 2 ≤ wr.heap.size) (fun i _ => l.length - (intOf i).toNat)
  case atStart => exact ⟨0, by omega, rfl, ar0, th, bl, by omega⟩
  case round =>
    clear ar0 th bl
    obtain ⟨n, hn, rfl, har, hth, hbel, hsz⟩ := hrel
    have hvl := mixN_len (h := [a, b, c, d, e, f, g, h]) rfl l n
    have hvs := mixN_small hst l n
    have HNX : Hid (mixN l [a, b, c, d, e, f, g, h] (n + 1) = cmpN (mixN l [a, b, c, d, e, f, g, h] n) (sch (firsts l (64 * n) 16) 48) 8) := rfl
    have HFX : Hid (64 * n = l.length → mixN l [a, b, c, d, e, f, g, h] (l.length / 64) = mixN l [a, b, c, d, e, f, g, h] n) := fun e => by rw [← e, Nat.mul_div_cancel_left _ (by omega)]
    have lkr : layK wr := fun i hi => (hbel.cell (p := ⟨2, i, none⟩) hgl).trans (hK i hi)
    generalize mixN l [a, b, c, d, e, f, g, h] n = v at *
    by_cases hlt : 64 * n < l.length
    · have hcl := cmpN_len v (sch (firsts l (64 * n) 16) 48) 8
      have hin : 64 * n + 64 ≤ l.length := by omega
      obtain ⟨x0, x1, x2, x3, x4, x5, x6, x7, rfl⟩ := eight hvl
      obtain ⟨y0, y1, y2, y3, y4, y5, y6, y7, hy⟩ := eight hcl
      rw [hy] at HNX
      obtain ⟨c0, f0⟩ := har 0 (by omega)
      obtain ⟨c1, f1⟩ := har 1 (by omega)
      obtain ⟨c2, f2⟩ := har 2 (by omega)
      obtain ⟨c3, f3⟩ := har 3 (by omega)
      obtain ⟨c4, f4⟩ := har 4 (by omega)
      obtain ⟨c5, f5⟩ := har 5 (by omega)
      obtain ⟨c6, f6⟩ := har 6 (by omega)
      obtain ⟨c7, f7⟩ := har 7 (by omega)
      obtain ⟨g0, g1, g2, g3, g4, g5, g6, g7⟩ := l8_gets x0 x1 x2 x3 x4 x5 x6 x7
      simp only [fOf] at c0 c1 c2 c3 c4 c5 c6 c7
      rw [g0] at c0; rw [g1] at c1; rw [g2] at c2; rw [g3] at c3; rw [g4] at c4; rw [g5] at c5; rw [g6] at c6; rw [g7] at c7
      have HAR : Hid (arr32 wr w.heap.size (fOf [x0, x1, x2, x3, x4, x5, x6, x7]) 8) := har
      clear g0 g1 g2 g3 g4 g5 g6 g7 har hvl hcl HFX
      have hcs := cut_size l (64 * n) 64 hin
      have hY : cmpN [x0, x1, x2, x3, x4, x5, x6, x7] (sch (firsts ((⟨l.toArray⟩ : ByteArray).extract (64 * n) (64 * n + 64)).data.toList 0 16) 48) 8 = [y0, y1, y2, y3, y4, y5, y6, y7] := by
        rw [cut_list, firsts_cut l (64 * n) 16 (by omega)]; exact hy
      have HY := mix8 x0 x1 x2 x3 x4 x5 x6 x7 y0 y1 y2 y3 y4 y5 y6 y7 hvs ((⟨l.toArray⟩ : ByteArray).extract (64 * n) (64 * n + 64)) hcs
      clear hy hcs
      have j1 : IntKind.i64.wrap (64 * (n : Int) + 64) = 64 * (n : Int) + 64 := by rw [IntKind.wrap_i64]; omega
      have n0 : (0 : Int) ≤ 64 * (n : Int) ∧ 64 * (n : Int) ≤ 64 * (n : Int) + 64 := by omega
      have n1 : (0 : Int) ≤ 64 * (n : Int) + 64 ∧ 64 * (n : Int) + 64 ≤ (l.length : Int) := by omega
      have t0 : (64 * (n : Int)).toNat = 64 * n := by omega
      have t1 : (64 * (n : Int) + 64).toNat = 64 * n + 64 := by omega
      have hd1 : decide (64 * (n : Int) < (l.length : Int)) = true := by simp; omega
      have HYY : Hid (∀ (w : World), layK w → 2 < w.heap.size → _) := fun w k g => HY w k g hY
      clear HY hY
      go_wp2_with fail
      go_region_with ((go_at_call 158; refine (HYY.out _ (by exact lkr) (by simp; omega)).mono ?_; rintro e' w' ⟨rfl, hb'⟩; obtain ⟨q0, q1, q2, q3, q4, q5, q6, q7, e0, e1, e2, e3, e4, e5, e6, e7⟩ := box_facts (wr := wr.drew) HAR.out hb' (show w.heap.size < wr.heap.size by omega)))
      all_goals
        go_wp2
        go_roundw
        case rel =>
          have th' : w'.there w.heap.size 0 8 := there_keep (wr := wr.drew) HAR.out hb' (show w.heap.size < wr.heap.size by omega)
          have hth' : w'.there (w.heap.size + 1) 0 8 := there_below (w := wr.drew) hth hb' (show w.heap.size + 1 < wr.heap.size by omega)
          have hz' : wr.heap.size ≤ w'.heap.size := hb'.size
          refine ⟨n + 1, by omega, by go_num, ?_, ?_, ?_, ?_⟩
          · rw [HNX.out]
            exact box_store th'
          · exact World.there_setCells hth' w.heap.size 0 [.int .u32 (y0 : Nat), .int .u32 (y1 : Nat), .int .u32 (y2 : Nat), .int .u32 (y3 : Nat), .int .u32 (y4 : Nat), .int .u32 (y5 : Nat), .int .u32 (y6 : Nat), .int .u32 (y7 : Nat)]
          · exact (hbel.drew.trans (hb'.mono (show w.heap.size ≤ wr.heap.size by omega))).trans (below_setCells w' w.heap.size [.int .u32 (y0 : Nat), .int .u32 (y1 : Nat), .int .u32 (y2 : Nat), .int .u32 (y3 : Nat), .int .u32 (y4 : Nat), .int .u32 (y5 : Nat), .int .u32 (y6 : Nat), .int .u32 (y7 : Nat)] 0 (Nat.le_refl _))
          · have := (below_setCells (B := 0) w' w.heap.size [.int .u32 (y0 : Nat), .int .u32 (y1 : Nat), .int .u32 (y2 : Nat), .int .u32 (y3 : Nat), .int .u32 (y4 : Nat), .int .u32 (y5 : Nat), .int .u32 (y6 : Nat), .int .u32 (y7 : Nat)] 0 (Nat.zero_le _)).size
            exact Nat.le_trans hsz (Nat.le_trans hz' this)
        case measure => simp [intOf]; omega
    · have HFIN : Hid (mixN l [a, b, c, d, e, f, g, h] (l.length / 64) = v) := HFX.out (by omega)
      obtain ⟨x0, x1, x2, x3, x4, x5, x6, x7, rfl⟩ := eight hvl
      obtain ⟨q0, q1, q2, q3, q4, q5, q6, q7, e0, e1, e2, e3, e4, e5, e6, e7⟩ := box_facts har (Below.refl wr.heap.size wr) (show w.heap.size < wr.heap.size by omega)
      obtain ⟨z0, p0, r0⟩ := there_cell hth 0 (by omega)
      obtain ⟨z1, p1, r1⟩ := there_cell hth 1 (by omega)
      obtain ⟨z2, p2, r2⟩ := there_cell hth 2 (by omega)
      obtain ⟨z3, p3, r3⟩ := there_cell hth 3 (by omega)
      obtain ⟨z4, p4, r4⟩ := there_cell hth 4 (by omega)
      obtain ⟨z5, p5, r5⟩ := there_cell hth 5 (by omega)
      obtain ⟨z6, p6, r6⟩ := there_cell hth 6 (by omega)
      obtain ⟨z7, p7, r7⟩ := there_cell hth 7 (by omega)
      have HTH : Hid (wr.there (w.heap.size + 1) 0 8) := hth
      have hd1 : decide (64 * (n : Int) < (l.length : Int)) = false := by simp; omega
      clear hth har HFX HNX hvl lkr
      go_wp2_with fail
      show bodyPost Tryz.prog _ _ _ _ (wr.setCells (w.heap.size + 1) 0 [.int .u32 (x0 : Nat), .int .u32 (x1 : Nat), .int .u32 (x2 : Nat), .int .u32 (x3 : Nat), .int .u32 (x4 : Nat), .int .u32 (x5 : Nat), .int .u32 (x6 : Nat), .int .u32 (x7 : Nat)])
      have hr2 := World.rangeAt_setCells_same wr (w.heap.size + 1) 0 [.int .u32 (x0 : Nat), .int .u32 (x1 : Nat), .int .u32 (x2 : Nat), .int .u32 (x3 : Nat), .int .u32 (x4 : Nat), .int .u32 (x5 : Nat), .int .u32 (x6 : Nat), .int .u32 (x7 : Nat)] HTH.out
      refine bodyPost_ret (v := .agg [.int .u32 (x0 : Nat), .int .u32 (x1 : Nat), .int .u32 (x2 : Nat), .int .u32 (x3 : Nat), .int .u32 (x4 : Nat), .int .u32 (x5 : Nat), .int .u32 (x6 : Nat), .int .u32 (x7 : Nat)].toArray) (results_cell rfl _ _ _ (w.heap.size + 1) 0 rfl _ (run_loadVar_mid _ _ _ _ _ _ hr2 Tryz.underlying172 rfl (by kernel_rfl))) rfl ⟨?_, ?_⟩
      · rw [HFIN.out]; rfl
      · exact hbel.trans (below_setCells _ _ _ _ (by omega))
end Go.Proofs.YtinnliapfdpfpaaGreatDoor
