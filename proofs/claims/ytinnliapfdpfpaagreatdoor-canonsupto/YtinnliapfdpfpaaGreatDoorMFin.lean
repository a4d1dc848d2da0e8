/-
  THE PROGRAM's finish.
-/
import Derived.Test.YtinnliapfdpfpaaGreatDoorMLast
namespace Go.Proofs.YtinnliapfdpfpaaGreatDoor
open Go.RowKit
theorem mixAll8 (x0 x1 x2 x3 x4 x5 x6 x7 y0 y1 y2 y3 y4 y5 y6 y7 : Nat) (hst : small [x0, x1, x2, x3, x4, x5, x6, x7]) (s : ByteArray) (l : List UInt8) (hsl : s = ⟨l.toArray⟩) (hl : l.length % 64 = 0) (hl2 : l.length ≤ 500000000000000) (hY : mixN l [x0, x1, x2, x3, x4, x5, x6, x7] (l.length / 64) = [y0, y1, y2, y3, y4, y5, y6, y7])
    (w : World) (hK : layK w) (hgl : 2 < w.heap.size) :
    Calls Tryz.prog 145 #[.agg #[.int .u32 x0, .int .u32 x1, .int .u32 x2, .int .u32 x3, .int .u32 x4, .int .u32 x5, .int .u32 x6, .int .u32 x7], .string s] w fun e' w' => e' = .returned (.agg #[.int .u32 y0, .int .u32 y1, .int .u32 y2, .int .u32 y3, .int .u32 y4, .int .u32 y5, .int .u32 y6, .int .u32 y7]) ∧ Below w.heap.size w w' := by
  subst hsl
  refine (mixAll_core x0 x1 x2 x3 x4 x5 x6 x7 hst l hl hl2 w hK hgl).mono ?_
  rintro e' w' ⟨rfl, hb⟩
  refine ⟨?_, hb⟩
  rw [hY]; rfl
theorem fin_start (x0 x1 x2 x3 x4 x5 x6 x7 : Nat) (w w0 : World)
    (hw0 : w0 = (w.alloc (.cells #[.int .u32 (x0 : Nat), .int .u32 (x1 : Nat), .int .u32 (x2 : Nat), .int .u32 (x3 : Nat), .int .u32 (x4 : Nat), .int .u32 (x5 : Nat), .int .u32 (x6 : Nat), .int .u32 (x7 : Nat)] 172)).alloc (.cells z32 119)) :
    arr32 w0 w.heap.size (fOf [x0, x1, x2, x3, x4, x5, x6, x7]) 8 ∧ w0.there (w.heap.size + 1) 0 32 ∧ Below w.heap.size w w0 ∧ w0.heap.size = w.heap.size + 2 := by
  subst hw0
  rw [z32_is]
  refine ⟨?_, ?_, ?_, by simp⟩
  · intro j hj
    refine ⟨?_, by simp [go_sem]⟩
    obtain ⟨g0, g1, g2, g3, g4, g5, g6, g7⟩ := l8_gets x0 x1 x2 x3 x4 x5 x6 x7
    unfold fOf
    rw [World.cell?_alloc_past (hn := by simp), World.cell?_alloc_at (hn := rfl)]
    have : j = 0 ∨ j = 1 ∨ j = 2 ∨ j = 3 ∨ j = 4 ∨ j = 5 ∨ j = 6 ∨ j = 7 := by omega
    rcases this with rfl | rfl | rfl | rfl | rfl | rfl | rfl | rfl
    · rw [g0]; rfl
    · rw [g1]; rfl
    · rw [g2]; rfl
    · rw [g3]; rfl
    · rw [g4]; rfl
    · rw [g5]; rfl
    · rw [g6]; rfl
    · rw [g7]; rfl
  · intro j hj
    have h1 := zeros8_cell (w.alloc (.cells #[.int .u32 (x0 : Nat), .int .u32 (x1 : Nat), .int .u32 (x2 : Nat), .int .u32 (x3 : Nat), .int .u32 (x4 : Nat), .int .u32 (x5 : Nat), .int .u32 (x6 : Nat), .int .u32 (x7 : Nat)] 172)) 119 32 j hj
    have h2 := zeros_free (w.alloc (.cells #[.int .u32 (x0 : Nat), .int .u32 (x1 : Nat), .int .u32 (x2 : Nat), .int .u32 (x3 : Nat), .int .u32 (x4 : Nat), .int .u32 (x5 : Nat), .int .u32 (x6 : Nat), .int .u32 (x7 : Nat)] 172)) 119 (Array.replicate 32 (.int .u8 0)) j
    have e : (w.alloc (.cells #[.int .u32 (x0 : Nat), .int .u32 (x1 : Nat), .int .u32 (x2 : Nat), .int .u32 (x3 : Nat), .int .u32 (x4 : Nat), .int .u32 (x5 : Nat), .int .u32 (x6 : Nat), .int .u32 (x7 : Nat)] 172)).heap.size = w.heap.size + 1 := by simp
    rw [e] at h1 h2
    rw [Nat.zero_add, h1, h2]
    exact ⟨rfl, rfl⟩
  · exact ((Below.refl _ _).alloc (Nat.le_refl _) _).alloc (by simp) _
/-- The lists of words that go round. -/
abbrev w8 (a b c d e f g h : Nat) : List Value := [.int .u32 (a : Nat), .int .u32 (b : Nat), .int .u32 (c : Nat), .int .u32 (d : Nat), .int .u32 (e : Nat), .int .u32 (f : Nat), .int .u32 (g : Nat), .int .u32 (h : Nat)]
/-- What holds of the state's box while finish runs. -/
structure FinB (w : World) (B : Nat) (x0 x1 x2 x3 x4 x5 x6 x7 : Nat) (wr : World) : Prop where
  gl : 2 < B
  k : layK w
  ar : arr32 wr B (fOf [x0, x1, x2, x3, x4, x5, x6, x7]) 8
  th : wr.there (B + 1) 0 32
  bel : Below B w wr
  sz : B + 2 ≤ wr.heap.size
theorem FinB.lk {w wr : World} {B x0 x1 x2 x3 x4 x5 x6 x7 : Nat} (h : FinB w B x0 x1 x2 x3 x4 x5 x6 x7 wr) : layK wr := fun i hi => (h.bel.cell (p := ⟨2, i, none⟩) h.gl).trans (h.k i hi)
theorem FinB.drew {w wr : World} {B x0 x1 x2 x3 x4 x5 x6 x7 : Nat} (h : FinB w B x0 x1 x2 x3 x4 x5 x6 x7 wr) : FinB w B x0 x1 x2 x3 x4 x5 x6 x7 wr.drew := ⟨h.gl, h.k, h.ar, h.th, h.bel.drew, h.sz⟩
theorem FinB.call {w wr w' : World} {B x0 x1 x2 x3 x4 x5 x6 x7 : Nat} (h : FinB w B x0 x1 x2 x3 x4 x5 x6 x7 wr) (hb : Below wr.heap.size wr w') : FinB w B x0 x1 x2 x3 x4 x5 x6 x7 w' := by
  have hs := h.sz
  have hz := hb.size
  refine ⟨h.gl, h.k, fun j hj => ?_, there_below h.th hb (by omega), h.bel.trans (hb.mono (by omega)), by omega⟩
  exact ⟨(hb.cell (p := ⟨B, j, none⟩) (by simp; omega)).trans (h.ar j hj).1, (hb.frozen (p := ⟨B, j, none⟩) (by simp; omega)).trans (h.ar j hj).2⟩
theorem FinB.facts {w wr : World} {B x0 x1 x2 x3 x4 x5 x6 x7 : Nat} (h : FinB w B x0 x1 x2 x3 x4 x5 x6 x7 wr) :
    wr.cell? ⟨B, 0, none⟩ = some (.int .u32 (x0 : Nat)) ∧ wr.cell? ⟨B, 1, none⟩ = some (.int .u32 (x1 : Nat)) ∧ wr.cell? ⟨B, 2, none⟩ = some (.int .u32 (x2 : Nat)) ∧ wr.cell? ⟨B, 3, none⟩ = some (.int .u32 (x3 : Nat)) ∧ wr.cell? ⟨B, 4, none⟩ = some (.int .u32 (x4 : Nat)) ∧ wr.cell? ⟨B, 5, none⟩ = some (.int .u32 (x5 : Nat)) ∧ wr.cell? ⟨B, 6, none⟩ = some (.int .u32 (x6 : Nat)) ∧ wr.cell? ⟨B, 7, none⟩ = some (.int .u32 (x7 : Nat)) ∧
    wr.frozen? ⟨B, 0, none⟩ = false ∧ wr.frozen? ⟨B, 1, none⟩ = false ∧ wr.frozen? ⟨B, 2, none⟩ = false ∧ wr.frozen? ⟨B, 3, none⟩ = false ∧ wr.frozen? ⟨B, 4, none⟩ = false ∧ wr.frozen? ⟨B, 5, none⟩ = false ∧ wr.frozen? ⟨B, 6, none⟩ = false ∧ wr.frozen? ⟨B, 7, none⟩ = false := by
  have hs := h.sz
  exact box_facts h.ar (Below.refl wr.heap.size wr) (by omega)
theorem FinB.store {w wr : World} {B x0 x1 x2 x3 x4 x5 x6 x7 : Nat} (h : FinB w B x0 x1 x2 x3 x4 x5 x6 x7 wr) (y0 y1 y2 y3 y4 y5 y6 y7 : Nat) : FinB w B y0 y1 y2 y3 y4 y5 y6 y7 (wr.setCells B 0 (w8 y0 y1 y2 y3 y4 y5 y6 y7)) := by
  have hs := h.sz
  have th' : wr.there B 0 8 := there_keep h.ar (Below.refl wr.heap.size wr) (by omega)
  have := (below_setCells (B := 0) wr B (w8 y0 y1 y2 y3 y4 y5 y6 y7) 0 (Nat.zero_le _)).size
  exact ⟨h.gl, h.k, box_store th', World.there_setCells h.th B 0 _, h.bel.trans (below_setCells wr B (w8 y0 y1 y2 y3 y4 y5 y6 y7) 0 (Nat.le_refl _)), by omega⟩
theorem fin_arg (l r : List UInt8) (m : Nat) (h : (⟨l.toArray⟩ : ByteArray).extract (64 * m) l.length = ⟨r.toArray⟩) (hr : r.length < 64) (L : Nat) (hL : L < 1000000000000000) (w : World) :
    Calls Tryz.prog 146 #[.string ((⟨l.toArray⟩ : ByteArray).extract (64 * m) l.length), .int .u64 L] w fun e w' => e = .returned (.string ⟨(lastL r L).toArray⟩) ∧ Below w.heap.size w w' := by
  rw [h]; exact last_any r L hr hL w
set_option maxRecDepth 100000 in
set_option maxHeartbeats 1000000 in
theorem finish_core (x0 x1 x2 x3 x4 x5 x6 x7 : Nat) (hst : small [x0, x1, x2, x3, x4, x5, x6, x7]) (l : List UInt8) (hl : l.length ≤ 400000000000000) (bf : Nat) (hbf : bf ≤ 64) (w : World) (hK : layK w) (hgl : 2 < w.heap.size) :
    Calls Tryz.prog 104 #[.agg #[.int .u32 x0, .int .u32 x1, .int .u32 x2, .int .u32 x3, .int .u32 x4, .int .u32 x5, .int .u32 x6, .int .u32 x7], .string ⟨l.toArray⟩, .int .i64 bf] w fun e' w' => e' = .returned (.agg ((finL [x0, x1, x2, x3, x4, x5, x6, x7] l bf).map u8v).toArray) ∧ Below w.heap.size w w' := by
  have hq : (l.length : Int) - (l.length : Int) % 64 = 64 * ((l.length / 64 : Nat) : Int) := by omega
  have HFIN : Hid (finL [x0, x1, x2, x3, x4, x5, x6, x7] l bf = outL (mixN (lastL (l.drop (64 * (l.length / 64))) (bf + l.length)) (finM [x0, x1, x2, x3, x4, x5, x6, x7] l) ((lastL (l.drop (64 * (l.length / 64))) (bf + l.length)).length / 64)) 8) := rfl
  have hml : (finM [x0, x1, x2, x3, x4, x5, x6, x7] l).length = 8 := mixN_len rfl _ _
  have hms : small (finM [x0, x1, x2, x3, x4, x5, x6, x7] l) := mixN_small hst _ _
  have HM : Hid (finM [x0, x1, x2, x3, x4, x5, x6, x7] l = mixN (l.take (64 * (l.length / 64))) [x0, x1, x2, x3, x4, x5, x6, x7] (l.length / 64)) := rfl
  generalize finM [x0, x1, x2, x3, x4, x5, x6, x7] l = M at *
  obtain ⟨m, hm⟩ : ∃ m, m = l.length / 64 := ⟨_, rfl⟩
  rw [← hm] at hq HFIN HM
  have hm1 : 64 * m ≤ l.length := by omega
  have hm2 : l.length < 64 * m + 64 := by omega
  have htl : (l.take (64 * m)).length = 64 * m := by rw [List.length_take]; omega
  have hdl : (l.drop (64 * m)).length < 64 := by rw [List.length_drop]; omega
  obtain ⟨y0, y1, y2, y3, y4, y5, y6, y7, rfl⟩ := eight hml
  have c1 := mixAll8 x0 x1 x2 x3 x4 x5 x6 x7 y0 y1 y2 y3 y4 y5 y6 y7 hst _ (l.take (64 * m)) (cut_to l (64 * m)) (by omega) (by omega) (by rw [htl, Nat.mul_div_cancel_left _ (by omega)]; exact HM.out.symm)
  have C1 : Hid (_) := c1
  clear c1 hml HM hm
  have HC0 := cut_from l (64 * m)
  have HC : Hid ((⟨l.toArray⟩ : ByteArray).extract (64 * m) l.length = ⟨(l.drop (64 * m)).toArray⟩) := HC0
  clear HC0
  generalize l.drop (64 * m) = r at *
  have hlal := last_len r (bf + l.length)
  have hzm := zs_mod r.length
  have hll := mixN_len (h := [y0, y1, y2, y3, y4, y5, y6, y7]) rfl (lastL r (bf + l.length)) ((lastL r (bf + l.length)).length / 64)
  have hls := mixN_small hms (lastL r (bf + l.length)) ((lastL r (bf + l.length)).length / 64)
  have hz64 := zs_lt r.length
  have hl3 : (lastL r (bf + l.length)).length % 64 = 0 := by omega
  have hl4 : (lastL r (bf + l.length)).length ≤ 500000000000000 := by omega
  obtain ⟨v0, v1, v2, v3, v4, v5, v6, v7, hv⟩ := eight hll
  rw [hv] at hls HFIN
  have CL0 := fin_arg l r m HC.out hdl (bf + l.length) (by omega)
  have CM0 := mixAll8 y0 y1 y2 y3 y4 y5 y6 y7 v0 v1 v2 v3 v4 v5 v6 v7 hms _ (lastL r (bf + l.length)) rfl hl3 hl4 hv
  clear hll hlal hzm hz64 hl3 hl4 hv HC
  generalize lastL r (bf + l.length) = q at *
  have CL : Hid (_) := CL0
  have CM : Hid (_) := CM0
  clear CL0 CM0
  have n1 : (0 : Int) ≤ 64 * (m : Int) ∧ 64 * (m : Int) ≤ (l.length : Int) := by omega
  have t1 : (64 * (m : Int)).toNat = 64 * m := by omega
  have k1 : IntKind.u64.wrap (bf : Int) = bf := by rw [IntKind.wrap_u64]; omega
  have k2 : IntKind.u64.wrap (l.length : Int) = l.length := by rw [IntKind.wrap_u64]; omega
  have k3 : IntKind.u64.wrap ((bf : Int) + l.length) = ((bf + l.length : Nat) : Int) := by rw [IntKind.wrap_u64]; omega
  obtain ⟨w0, hw0⟩ : ∃ w0, w0 = (w.alloc (.cells #[.int .u32 (x0 : Nat), .int .u32 (x1 : Nat), .int .u32 (x2 : Nat), .int .u32 (x3 : Nat), .int .u32 (x4 : Nat), .int .u32 (x5 : Nat), .int .u32 (x6 : Nat), .int .u32 (x7 : Nat)] 172)).alloc (.cells z32 119) := ⟨_, rfl⟩
  have F0 : FinB w w.heap.size x0 x1 x2 x3 x4 x5 x6 x7 w0 := by
    obtain ⟨har, hth, hbel, hsz⟩ := fin_start x0 x1 x2 x3 x4 x5 x6 x7 w w0 hw0
    exact ⟨hgl, hK, har, hth, hbel, by omega⟩
  obtain ⟨q0, q1, q2, q3, q4, q5, q6, q7, e0, e1, e2, e3, e4, e5, e6, e7⟩ := F0.facts
  clear hst hK
  go_enter Tryz.func104, Tryz.ntmps104
  go_wp2
  unfold z32 at hw0
  rw [← hw0]
  clear hw0
  go_region_with ((go_at_call 145; refine (C1.out _ F0.drew.lk (Nat.lt_trans F0.gl (Nat.lt_of_lt_of_le (Nat.lt_succ_self _) (Nat.le_trans (Nat.le_succ _) F0.sz)))).mono ?_; rintro e' w' ⟨rfl, hb'⟩; have F1 := F0.drew.call hb'; obtain ⟨p0, p1, p2, p3, p4, p5, p6, p7, s0, s1, s2, s3, s4, s5, s6, s7⟩ := F1.facts))
  all_goals
    have F2 := F1.store y0 y1 y2 y3 y4 y5 y6 y7
    show Exit.then _ _ _ _ (w'.setCells w.heap.size 0 (w8 y0 y1 y2 y3 y4 y5 y6 y7))
    generalize w'.setCells w.heap.size 0 (w8 y0 y1 y2 y3 y4 y5 y6 y7) = w2 at *
    clear hb' F0 F1 q0 q1 q2 q3 q4 q5 q6 q7 e0 e1 e2 e3 e4 e5 e6 e7 p0 p1 p2 p3 p4 p5 p6 p7 s0 s1 s2 s3 s4 s5 s6 s7 C1
    obtain ⟨q0, q1, q2, q3, q4, q5, q6, q7, e0, e1, e2, e3, e4, e5, e6, e7⟩ := F2.facts
    go_wp2
    have GL : Hid (2 < w2.heap.size) := Nat.lt_trans F2.gl (Nat.lt_of_lt_of_le (Nat.lt_succ_self _) (Nat.le_trans (Nat.le_succ _) F2.sz))
    have HF2 : Hid (FinB w w.heap.size y0 y1 y2 y3 y4 y5 y6 y7 w2) := F2
    clear F2
    go_region_with (first
      | (go_at_call 146; refine (CL.out _).mono ?_; rintro e' w3 ⟨rfl, hb3⟩; have F3 := HF2.out.drew.call hb3; obtain ⟨p0, p1, p2, p3, p4, p5, p6, p7, s0, s1, s2, s3, s4, s5, s6, s7⟩ := F3.facts; have G3 : Hid (2 < w3.heap.size) := Nat.lt_of_lt_of_le GL.out hb3.size; have HF3 : Hid (FinB w w.heap.size y0 y1 y2 y3 y4 y5 y6 y7 w3) := F3; clear hb3 F3)
      | (go_at_call 145; refine (CM.out _ HF3.out.lk G3.out).mono ?_; rintro e' w4 ⟨rfl, hb4⟩; have HF4 : Hid (FinB w w.heap.size y0 y1 y2 y3 y4 y5 y6 y7 w4) := HF3.out.call hb4; obtain ⟨i0, i1, i2, i3, i4, i5, i6, i7, j0, j1, j2, j3, j4, j5, j6, j7⟩ := HF4.out.facts; clear hb4))
    all_goals
      have F5 := HF4.out.store v0 v1 v2 v3 v4 v5 v6 v7
      show Exit.then _ _ _ _ (w4.setCells w.heap.size 0 (w8 v0 v1 v2 v3 v4 v5 v6 v7))
      generalize w4.setCells w.heap.size 0 (w8 v0 v1 v2 v3 v4 v5 v6 v7) = w5 at *
      clear HF2 HF3 HF4 CM CL GL G3 q0 q1 q2 q3 q4 q5 q6 q7 e0 e1 e2 e3 e4 e5 e6 e7 p0 p1 p2 p3 p4 p5 p6 p7 s0 s1 s2 s3 s4 s5 s6 s7 i0 i1 i2 i3 i4 i5 i6 i7 j0 j1 j2 j3 j4 j5 j6 j7
      obtain ⟨q0, q1, q2, q3, q4, q5, q6, q7, e0, e1, e2, e3, e4, e5, e6, e7⟩ := F5.facts
      have CS := stateBytes_core v0 v1 v2 v3 v4 v5 v6 v7 hls
      rw [out_bytes, ← HFIN.out] at CS
      have HLL : Hid (((finL [x0, x1, x2, x3, x4, x5, x6, x7] l bf).map u8v).length = 32) := by show _ = _; rw [HFIN.out, List.length_map, outL_len]
      have HLA : Hid (((finL [x0, x1, x2, x3, x4, x5, x6, x7] l bf).map u8v).toArray.size = 32) := by show _ = _; rw [List.size_toArray]; exact HLL.out
      have HON : Hid (∀ v ∈ (finL [x0, x1, x2, x3, x4, x5, x6, x7] l bf).map u8v, v.oneCell' = true) := by intro v hv; rw [List.mem_map] at hv; obtain ⟨x, _, rfl⟩ := hv; rfl
      generalize hg : (finL [x0, x1, x2, x3, x4, x5, x6, x7] l bf).map u8v = L at *
      have HG : Hid ((finL [x0, x1, x2, x3, x4, x5, x6, x7] l bf).map u8v = L) := hg
      clear hg HFIN
      have HCS : Hid (_) := CS
      clear CS
      have HF5 : Hid (FinB w w.heap.size v0 v1 v2 v3 v4 v5 v6 v7 w5) := F5
      clear F5
      go_wp2_with (first
        | (go_at_call 147; refine (HCS.out _).mono ?_; rintro e' w6 ⟨rfl, hb6⟩; have HF6 : Hid (FinB w w.heap.size v0 v1 v2 v3 v4 v5 v6 v7 w6) := HF5.out.call hb6; clear hb6)
        | (refine wpList_store_mid rfl 119 _ _ rfl (w.heap.size + 1) 0 L.toArray rfl rfl (by rw [HLA.out]; exact HF6.out.th) (by rw [HLA.out]; kernel_rfl) (all_oneCell_toArray HON.out) ?_))
      have hr2 := World.rangeAt_setCells_same w6 (w.heap.size + 1) 0 L (by rw [HLL.out]; exact HF6.out.th)
      refine bodyPost_ret (v := .agg L.toArray) (results_cell rfl _ _ _ (w.heap.size + 1) 0 rfl _ (run_loadVar_mid _ _ _ _ _ _ hr2 Tryz.underlying119 rfl (by rw [HLL.out]; kernel_rfl))) rfl ⟨by rw [HG.out], ?_⟩
      exact HF6.out.bel.trans (below_setCells _ _ _ _ (by omega))
end Go.Proofs.YtinnliapfdpfpaaGreatDoor
