/-
  THE DOCUMENT's DIGEST.
-/
import Derived.Test.YtinnliapfdpfpaaGreatDoorHWords
namespace Go.Proofs.YtinnliapfdpfpaaGreatDoor
open Go.RowKit
def rndL (v : List Nat) (more : Nat) : List Nat := rnd8 (v.getD 0 0) (v.getD 1 0) (v.getD 2 0) (v.getD 3 0) (v.getD 4 0) (v.getD 5 0) (v.getD 6 0) (v.getD 7 0) more
def rnds (v ws : List Nat) : Nat → List Nat
  | 0 => v
  | k + 1 => rndL (rnds v ws k) (kL.getD k 0 + ws.getD k 0)
/-- The first k words of what a block makes of a state. -/
def cmpN (h ws : List Nat) : Nat → List Nat
  | 0 => []
  | k + 1 => cmpN h ws k ++ [(h.getD k 0 + (rnds h ws 64).getD k 0) % 4294967296]
def mixN (l : List UInt8) (h : List Nat) : Nat → List Nat
  | 0 => h
  | n + 1 => cmpN (mixN l h n) (sch (firsts l (64 * n) 16) 48) 8
def outL (h : List Nat) : Nat → List UInt8
  | 0 => []
  | k + 1 => outL h k ++ bigL (h.getD k 0) 4
def digest (l : List UInt8) : List UInt8 := outL (mixN (pad l) hL ((pad l).length / 64)) 8
theorem rndL_len (v : List Nat) (m : Nat) : (rndL v m).length = 8 := rfl
theorem rndL_small {v : List Nat} (h : small v) (m : Nat) : small (rndL v m) := by
  have e : rndL v m = [] ++ [(v.getD 7 0 + bs1 (v.getD 4 0) + chs (v.getD 4 0) (v.getD 5 0) (v.getD 6 0) + m + (bs0 (v.getD 0 0) + mst (v.getD 0 0) (v.getD 1 0) (v.getD 2 0))) % 4294967296] ++ [v.getD 0 0] ++ [v.getD 1 0] ++ [v.getD 2 0] ++ [(v.getD 3 0 + (v.getD 7 0 + bs1 (v.getD 4 0) + chs (v.getD 4 0) (v.getD 5 0) (v.getD 6 0) + m)) % 4294967296] ++ [v.getD 4 0] ++ [v.getD 5 0] ++ [v.getD 6 0] := rfl
  rw [e]
  exact small_snoc (small_snoc (small_snoc (small_snoc (small_snoc (small_snoc (small_snoc (small_snoc small_nil (Nat.mod_lt _ (by omega))) (h 0)) (h 1)) (h 2)) (Nat.mod_lt _ (by omega))) (h 4)) (h 5)) (h 6)
theorem rnds_len {v : List Nat} (hv : v.length = 8) (ws : List Nat) (k : Nat) : (rnds v ws k).length = 8 := by cases k with | zero => exact hv | succ k => rfl
theorem rnds_small {v : List Nat} (hv : small v) (ws : List Nat) (k : Nat) : small (rnds v ws k) := by induction k with | zero => exact hv | succ k ih => exact rndL_small ih _
theorem cmpN_len (h ws : List Nat) (k : Nat) : (cmpN h ws k).length = k := by induction k with | zero => rfl | succ k ih => simp [cmpN, ih]
theorem cmpN_small (h ws : List Nat) (k : Nat) : small (cmpN h ws k) := by induction k with | zero => exact small_nil | succ k ih => exact small_snoc ih (Nat.mod_lt _ (by omega))
theorem mixN_len {h : List Nat} (hh : h.length = 8) (l : List UInt8) (n : Nat) : (mixN l h n).length = 8 := by cases n with | zero => exact hh | succ n => exact cmpN_len _ _ _
theorem mixN_small {h : List Nat} (hh : small h) (l : List UInt8) (n : Nat) : small (mixN l h n) := by cases n with | zero => exact hh | succ n => exact cmpN_small _ _ _
theorem hL_small : small hL := by
  intro i
  by_cases h : i < 8
  · have : ∀ n : Fin 8, hL.getD n.val 0 < 4294967296 := by decide +kernel
    exact this ⟨i, h⟩
  · have e : hL.getD i 0 = 0 := by rw [List.getD_eq_getElem?_getD, List.getElem?_eq_none (by show 8 ≤ i; omega)]; rfl
    rw [e]; omega
theorem outL_len (h : List Nat) (k : Nat) : (outL h k).length = 4 * k := by induction k with | zero => rfl | succ k ih => simp [outL, ih, bigL_len]; omega

theorem ownI_lit {w : World} {B g : Nat} {l : List Nat} (hb : B ≤ g) (hl : l.length ≤ 1000) (h : w.heap[g]? = some (.cells (l.map iv).toArray 3 (0, 0))) : ownI w B (.slice (some ⟨g, 0, none⟩) l.length l.length) l :=
  ⟨by simp, Or.inr ⟨g, l.length, (l.map iv).toArray, rfl, hb, h, Nat.le_refl _, by unfold maxLen; omega, by simp, by rw [List.take_of_length_le (by simp)]⟩⟩
theorem ownI.below {w w' : World} {B : Nat} {v : Value} {l : List Nat} (h : ownI w B v l) (k : Below w.heap.size w w') : ownI w' B v l := by
  refine World.ownsRow.kept h (row := none) ⟨k.os, k.tape, k.output, k.size, fun j hj _ => k.block j hj⟩ ?_
  cases hv : v.ownBlock with
  | none => exact Or.inl rfl
  | some n => right; simp
theorem ownI.mono {w : World} {B B' : Nat} {v : Value} {l : List Nat} (h : ownI w B v l) (hb : B' ≤ B) : ownI w B' v l := by
  obtain ⟨h1, h2 | ⟨g, cap, cur, e1, e2, e3⟩⟩ := h
  · exact ⟨h1, Or.inl h2⟩
  · exact ⟨h1, Or.inr ⟨g, cap, cur, e1, Nat.le_trans hb e2, e3⟩⟩
theorem ownI.formN {w : World} {B n : Nat} {v : Value} {l : List Nat} (h : ownI w B v l) (hl : l.length = n) (hn : 0 < n) : ∃ g cap, v = .slice (some ⟨g, 0, none⟩) n cap ∧ B ≤ g ∧ g < w.heap.size := by
  subst hl; exact h.form hn
theorem ownI.keepB {w w' : World} {B B3 g n c : Nat} {l : List Nat} (h : ownI w B (.slice (some ⟨g, 0, none⟩) n c) l) (k : Below B3 w w') (hg : g < B3) : ownI w' B (.slice (some ⟨g, 0, none⟩) n c) l := by
  obtain ⟨h1, ⟨h2, _⟩ | ⟨g', cap, cur, e1, e2, e3, e4⟩⟩ := h
  · cases h2
  · cases e1
    exact ⟨h1, Or.inr ⟨g, c, cur, rfl, e2, (k.block g hg).trans e3, e4⟩⟩
theorem below_all {w w' : World} {B : Nat} (h : Below w.heap.size w w') (hb : B ≤ w.heap.size) : Below B w w' := h.mono hb

theorem rround_two (a b c d e f g h x y : Nat) (ha : a < 4294967296) (hb : b < 4294967296) (hc : c < 4294967296) (hd : d < 4294967296) (he : e < 4294967296) (hf : f < 4294967296) (hg : g < 4294967296) (hh : h < 4294967296)
    (hm : x + y < 8589934592) (B C : Nat) (w : World)
    (c0 : w.cell? ⟨B, 0, none⟩ = some (.int .i64 a)) (c1 : w.cell? ⟨B, 1, none⟩ = some (.int .i64 b)) (c2 : w.cell? ⟨B, 2, none⟩ = some (.int .i64 c)) (c3 : w.cell? ⟨B, 3, none⟩ = some (.int .i64 d))
    (c4 : w.cell? ⟨B, 4, none⟩ = some (.int .i64 e)) (c5 : w.cell? ⟨B, 5, none⟩ = some (.int .i64 f)) (c6 : w.cell? ⟨B, 6, none⟩ = some (.int .i64 g)) (c7 : w.cell? ⟨B, 7, none⟩ = some (.int .i64 h)) :
    Calls Tryz.prog 157 #[.slice (some ⟨B, 0, none⟩) 8 C, .int .i64 ((x : Int) + (y : Int))] w fun e' w' =>
      e' = .returned (.slice (some ⟨w.heap.size, 0, none⟩) 8 8) ∧ ∃ q, w' = (w.alloc (.cells ((rnd8 a b c d e f g h (x + y)).map iv).toArray 3)).drewN q := by
  have t := rround_any a b c d e f g h (x + y) ha hb hc hd he hf hg hh hm B C w c0 c1 c2 c3 c4 c5 c6 c7
  rw [Int.natCast_add] at t
  exact t
set_option maxHeartbeats 1000000 in
theorem rdigest_any (l : List UInt8) (hl : l.length ≤ 500000000000000) (w : World) :
    Calls Tryz.prog 111 #[.string ⟨l.toArray⟩] w fun e w' => e = .returned (.string ⟨(digest l).toArray⟩) ∧ Below w.heap.size w w' := by
  have hpl := pad_len l
  have hzm := zs_mod l.length
  have hzl := zs_lt l.length
  have HDG : Hid (digest l = outL (mixN (pad l) hL ((pad l).length / 64)) 8) := rfl
  go_enter Tryz.func111, Tryz.ntmps111
  go_wp2_with fail
  refine (filled_any l hl _).mono ?_
  rintro e w1 ⟨rfl, hb1⟩
  go_wp2_with fail
  refine (consts_any _).mono ?_
  rintro e w2 ⟨rfl, hw2⟩
  have hk2 : ownI w2 w.heap.size (.slice (some ⟨w1.heap.size, 0, none⟩) 64 64) kL := by
    rw [hw2]; exact ownI_lit hb1.size (by show 64 ≤ 1000; omega) (heap_alloc_new _ _)
  have hb2 : Below w.heap.size w w2 := by rw [hw2]; exact hb1.alloc hb1.size _
  clear hw2 hb1
  obtain ⟨G, hG⟩ : ∃ G, G = w1.heap.size := ⟨_, rfl⟩
  rw [← hG] at hk2 ⊢
  clear hG
  generalize hP : pad l = P at *
  have HP : Hid (pad l = P) := hP
  clear hP
  have hz2 := hb2.size
  go_wp2
  go_loopw [5, 6] (fun v i wr => ∃ n : Nat, 64 * n ≤ P.length ∧ i = .int .i64 (64 * (n : Int)) ∧ ownI wr w.heap.size v (mixN P hL n) ∧ ownI wr w.heap.size (.slice (some ⟨G, 0, none⟩) 64 64) kL ∧ Below w.heap.size w wr) (fun _ i _ => P.length - (intOf i).toNat)
  case atStart => 
    refine ⟨0, by omega, rfl, ?_, hk2.alloc _, hb2.alloc (by omega) _⟩
    exact ownI_lit (by omega) (by show 8 ≤ 1000; omega) (heap_alloc_new _ _)
  case round =>
    clear hk2 hb2 hz2
    obtain ⟨n, hn, rfl, hv, hk, hbel⟩ := hrel
    have hhl := mixN_len (h := hL) rfl P n
    have hhs := mixN_small hL_small P n
    have HNX : Hid (mixN P hL (n + 1) = cmpN (mixN P hL n) (sch (firsts P (64 * n) 16) 48) 8) := rfl
    have HHN : Hid (mixN P hL n = mixN P hL n) := rfl
    have hsz := hbel.size
    by_cases hlt : 64 * n < P.length
    · clear HHN
      generalize mixN P hL n = h at *
      obtain ⟨gh, ch, rfl, hgh, hgh2⟩ := hv.formN hhl (by omega)
      have hd1 : decide (64 * (n : Int) < (P.length : Int)) = true := by simp; omega
      go_wp2_with fail
      rw [show (64 * (n : Int)) = ((64 * n : Nat) : Int) from by simp]
      refine (words_any ⟨P.toArray⟩ (64 * n) (by simp [ByteArray.size]; omega) (by simp [ByteArray.size]; omega) _).mono ?_
      rintro e w3 ⟨vw, rfl, hw, hb3⟩
      rw [show (⟨P.toArray⟩ : ByteArray).data.toList = P from rfl] at hw
      have hwl := sch_len (firsts P (64 * n) 16) 48
      rw [firsts_len] at hwl
      have hws := sch_small (firsts_small P (64 * n) 16) 48
      generalize sch (firsts P (64 * n) 16) 48 = WS at *
      have hv3 := hv.below hb3
      have hk3 := hk.below hb3
      have hw3 : ownI w3 w.heap.size vw WS := hw.mono hsz
      have hbel3 := hbel.trans (hb3.mono hsz)
      obtain ⟨gw, cw, rfl, hgw, hgw2⟩ := hw3.formN hwl (by omega)
      clear hv hk hbel hsz hw hb3 hgh2 hgw2
      rw [show ((64 * n : Nat) : Int) = (64 * (n : Int)) from by simp]
      go_wp2
      go_loopw [8, 9] (fun v i wq => ∃ k : Nat, k ≤ 64 ∧ i = .int .i64 k ∧ ownI wq w.heap.size v (rnds h WS k) ∧ ownI wq w.heap.size (.slice (some ⟨gh, 0, none⟩) 8 ch) h ∧ ownI wq w.heap.size (.slice (some ⟨G, 0, none⟩) 64 64) kL ∧ ownI wq w.heap.size (.slice (some ⟨gw, 0, none⟩) 64 cw) WS ∧ Below w.heap.size w wq) (fun _ i _ => 64 - (intOf i).toNat)
      case atStart => exact ⟨0, by omega, rfl, hv3, hv3, hk3, hw3, hbel3⟩
      case round =>
        clear hv3 hk3 hw3 hbel3
        obtain ⟨k, hk64, rfl, hv, hh, hk, hw, hbel⟩ := hrel
        by_cases hkl : k < 64
        · have hrl := rnds_len hhl WS k
          have hrs := rnds_small hhs WS k
          have HR : Hid (rnds h WS (k + 1) = rndL (rnds h WS k) (kL.getD k 0 + WS.getD k 0)) := rfl
          generalize rnds h WS k = r at *
          obtain ⟨gr, cr, rfl, hgr, hgr2⟩ := hv.formN hrl (by omega)
          have ck := hk.cell k (by show k < 64; exact hkl)
          have cw' := hw.cell k (by omega)
          have bk := kL_small k
          have bw := hws k
          unfold rndL at HR
          have b0 := hrs 0
          have b1 := hrs 1
          have b2 := hrs 2
          have b3 := hrs 3
          have b4 := hrs 4
          have b5 := hrs 5
          have b6 := hrs 6
          have b7 := hrs 7
          have c0 := hv.cell 0 (by omega)
          have c1 := hv.cell 1 (by omega)
          have c2 := hv.cell 2 (by omega)
          have c3 := hv.cell 3 (by omega)
          have c4 := hv.cell 4 (by omega)
          have c5 := hv.cell 5 (by omega)
          have c6 := hv.cell 6 (by omega)
          have c7 := hv.cell 7 (by omega)
          generalize kL.getD k 0 = yk at *
          generalize WS.getD k 0 = yw at *
          generalize r.getD 0 0 = a0 at *
          generalize r.getD 1 0 = a1 at *
          generalize r.getD 2 0 = a2 at *
          generalize r.getD 3 0 = a3 at *
          generalize r.getD 4 0 = a4 at *
          generalize r.getD 5 0 = a5 at *
          generalize r.getD 6 0 = a6 at *
          generalize r.getD 7 0 = a7 at *
          have lG : G < wr.heap.size := (World.ownsRow.lt hk G rfl).2
          have lgw : gw < wr.heap.size := (World.ownsRow.lt hw gw rfl).2
          have k0 : (0 : Int) ≤ (k : Int) := by omega
          have k1 : (k : Int) < 64 := by omega
          have j1 : IntKind.i64.wrap ((yk : Int) + (yw : Int)) = (yk : Int) + (yw : Int) := by rw [IntKind.wrap_i64]; omega
          have hdk : decide ((k : Int) < 64) = true := by simp; omega
          go_wp2_with fail
          go_region_held3 (fun w' => w'.cell? ⟨G, k, none⟩ = some (.int .i64 yk) ∧ w'.cell? ⟨gw, k, none⟩ = some (.int .i64 yw)) (simp [go_sem, World.cell?_alloc_past, ck, cw', lG, lgw]) ((go_at_call 157; refine (rround_two a0 a1 a2 a3 a4 a5 a6 a7 yk yw b0 b1 b2 b3 b4 b5 b6 b7 (by omega) gr cr _ (by exact c0) (by exact c1) (by exact c2) (by exact c3) (by exact c4) (by exact c5) (by exact c6) (by exact c7)).mono ?_; rintro e' w' ⟨rfl, qn, rfl⟩))
          rename_i hHeld
          clear hHeld c0 c1 c2 c3 c4 c5 c6 c7 ck cw' j1 hdk b0 b1 b2 b3 b4 b5 b6 b7 bk bw
          go_wp2
          go_roundw
          case rel =>
            refine ⟨k + 1, by omega, by go_num, ?_, (hh.alloc _).drewN _, (hk.alloc _).drewN _, (hw.alloc _).drewN _, below_drewN (hbel.alloc hbel.size _) _⟩
            rw [HR.out]
            exact ownI_lit hbel.size (by show 8 ≤ 1000; omega) (heap_alloc_new wr _)
          case measure => simp [intOf]; omega
        · have hrl := rnds_len hhl WS k
          have hrs := rnds_small hhs WS k
          have HR : Hid (rnds h WS 64 = rnds h WS k) := by show _ = _; rw [show k = 64 from by omega]
          have HCS : Hid (∀ j, cmpN h WS (j + 1) = cmpN h WS j ++ [(h.getD j 0 + (rnds h WS 64).getD j 0) % 4294967296]) := fun _ => rfl
          generalize rnds h WS k = r at *
          obtain ⟨gr, cr, rfl, hgr, hgr2⟩ := hv.formN hrl (by omega)
          have hdk : decide ((k : Int) < 64) = false := by simp; omega
          have hsz := hbel.size
          obtain ⟨B3, hB3⟩ : ∃ B3, B3 = wr.heap.size := ⟨_, rfl⟩
          have lgh3 : gh < B3 := by rw [hB3]; exact (World.ownsRow.lt hh gh rfl).2
          have lgr3 : gr < B3 := by rw [hB3]; exact (World.ownsRow.lt hv gr rfl).2
          have lG3 : G < B3 := by rw [hB3]; exact (World.ownsRow.lt hk G rfl).2
          have hB3w : w.heap.size ≤ B3 := by rw [hB3]; exact hsz
          have HB3 : Hid (B3 = wr.heap.size) := hB3
          clear hB3
          go_wp2_with fail
          go_loopw [10, 11] (fun v i wz => ∃ j : Nat, j ≤ 8 ∧ i = .int .i64 j ∧ ownI wz B3 v (cmpN h WS j) ∧ ownI wz w.heap.size (.slice (some ⟨gh, 0, none⟩) 8 ch) h ∧ ownI wz w.heap.size (.slice (some ⟨gr, 0, none⟩) 8 cr) r ∧ ownI wz w.heap.size (.slice (some ⟨G, 0, none⟩) 64 64) kL ∧ Below w.heap.size w wz ∧ B3 ≤ wz.heap.size) (fun _ i _ => 8 - (intOf i).toNat)
          case atStart => exact ⟨0, by omega, rfl, by simpa [ownI, cmpN] using World.ownsRow_nil wr B3 3 1, hh, hv, hk, hbel, by rw [HB3.out]; omega⟩
          case round =>
            clear hh hv hk hbel
            obtain ⟨j, hj8, rfl, hn', hh, hv, hk, hbel, hszw⟩ := hrel
            clear HB3 hsz
            by_cases hjl : j < 8
            · have HC2 : Hid (cmpN h WS (j + 1) = cmpN h WS j ++ [(h.getD j 0 + r.getD j 0) % 4294967296]) := by show _ = _; rw [HCS.out j, HR.out]
              have ncl := cmpN_len h WS j
              generalize cmpN h WS j = nc at *
              have ch' := hh.cell j (by omega)
              have cr' := hv.cell j (by omega)
              have b1 := hhs j
              have b2 := hrs j
              generalize h.getD j 0 = y1 at *
              generalize r.getD j 0 = y2 at *
              have k0 : (0 : Int) ≤ (j : Int) := by omega
              have k1 : (j : Int) < 8 := by omega
              have j1 : IntKind.i64.wrap ((y1 : Int) + (y2 : Int)) = (y1 : Int) + (y2 : Int) := by rw [IntKind.wrap_i64]; omega
              have hdj : decide ((j : Int) < 8) = true := by simp; omega
              have lgh : gh < wr.heap.size := (World.ownsRow.lt hh gh rfl).2
              have lgr : gr < wr.heap.size := (World.ownsRow.lt hv gr rfl).2
              have HC : Hid (#[Value.int .i64 (((y1 : Int) + (y2 : Int)).tmod 4294967296)] = ([(y1 + y2) % 4294967296].map iv).toArray) := by
                show _ = _
                rw [← j1, wrap_mod _ (y1 + y2) (by omega) (by omega)]; rfl
              go_wp2_with fail
              go_region_held3 (fun w' => w'.cell? ⟨gh, j, none⟩ = some (.int .i64 y1) ∧ w'.cell? ⟨gr, j, none⟩ = some (.int .i64 y2)) (first | (simp [go_sem, World.cell?_alloc_past, ch', cr', lgh, lgr]; done) | (exact ⟨(hb5.cell (p := ⟨gh, j, none⟩) lgh3).trans (by simp [go_sem, World.cell?_alloc_past, ch', lgh]), (hb5.cell (p := ⟨gr, j, none⟩) lgr3).trans (by simp [go_sem, World.cell?_alloc_past, cr', lgr])⟩)) ((refine app_int_step rfl _ _ rfl B3 nc [(y1 + y2) % 4294967296] _ rfl (hn'.drew.alloc _) _ 1 rfl rfl _ ((heap_alloc_new _ _).trans (by rw [HC.out])) (by omega) (by omega) (by simp; omega) ?_; intro v' w5 hown5 hb5))
              rename_i hHeld
              clear hHeld
              go_wp2
              go_roundw
              case rel =>
                have hsz := hbel.size
                have K : Below B3 wr w5 := (((Below.refl B3 wr).drew).alloc (by simpa using hszw) _).trans hb5
                have hz5 := K.size
                exact ⟨j + 1, by omega, by go_num, by rw [HC2.out]; exact hown5, hh.keepB K lgh3, hv.keepB K lgr3, hk.keepB K lG3, hbel.trans (K.mono hB3w), by omega⟩
              case measure => simp [intOf]; omega
            · have HC2 : Hid (mixN P hL (n + 1) = cmpN h WS j) := by show _ = _; rw [HNX.out, show j = 8 from by omega]
              have hdj : decide ((j : Int) < 8) = false := by simp; omega
              have hdv : 64 * (n + 1) ≤ P.length := by omega
              clear HCS HR HNX
              generalize cmpN h WS j = nc at *
              go_wp2_with fail
              go_roundw
              case rel => exact ⟨n + 1, hdv, by go_num, by rw [HC2.out]; exact hn'.mono hB3w, hk, hbel⟩
              case measure => simp [intOf]; omega
    · have HE : Hid (digest l = outL (mixN P hL n) 8) := by show _ = _; rw [HDG.out, show P.length / 64 = n from by omega]
      have hd1 : decide (64 * (n : Int) < (P.length : Int)) = false := by simp; omega
      clear HDG HNX HHN
      generalize mixN P hL n = h at *
      obtain ⟨gh, ch, rfl, hgh, hgh2⟩ := hv.formN hhl (by omega)
      clear hk
      go_wp2_with fail
      go_loopw [12, 13] (fun o i wz => ∃ j : Nat, j ≤ 8 ∧ i = .int .i64 j ∧ o = .string ⟨(outL h j).toArray⟩ ∧ ownI wz w.heap.size (.slice (some ⟨gh, 0, none⟩) 8 ch) h ∧ Below w.heap.size w wz) (fun _ i _ => 8 - (intOf i).toNat)
      case atStart => exact ⟨0, by omega, rfl, rfl, hv, hbel⟩
      case round =>
        clear hv hbel hsz hgh2
        obtain ⟨j, hj8, rfl, rfl, hv, hbel⟩ := hrel
        have hsz := hbel.size
        have hol := outL_len h j
        have HO : Hid (outL h (j + 1) = outL h j ++ bigL (h.getD j 0) 4) := rfl
        by_cases hjl : j < 8
        · have cj := hv.cell j (by omega)
          have bj := hhs j
          generalize outL h j = o at *
          generalize h.getD j 0 = y at *
          go_wp2_with fail
          refine (big_any y 4 (by omega) (by omega) _).mono ?_
          rintro e w5 ⟨rfl, hb5⟩
          have hbl := bigL_len y 4
          generalize bigL y 4 = r at *
          have a2 := app_str o r
          have hv5 := hv.below hb5
          have hbel5 := hbel.trans (hb5.mono hsz)
          clear hv hbel hb5 cj
          go_wp2
          go_roundw
          case rel => exact ⟨j + 1, by omega, by go_num, by rw [HO.out], hv5, hbel5⟩
          case measure => simp [intOf]; omega
        · have HE2 : Hid (digest l = outL h j) := by show _ = _; rw [HE.out, show j = 8 from by omega]
          have hdj : decide ((j : Int) < 8) = false := by simp; omega
          clear HO HE
          generalize outL h j = o at *
          go_wp2_with fail
          go_ret
          exact ⟨ret_str HE2.out.symm, hbel⟩
end Go.Proofs.YtinnliapfdpfpaaGreatDoor
