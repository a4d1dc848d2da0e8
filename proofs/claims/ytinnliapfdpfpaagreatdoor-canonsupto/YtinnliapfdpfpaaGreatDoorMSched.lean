/-
  THE PROGRAM's SCHEDULE: sixty-four words in an array.
-/
import Derived.Test.YtinnliapfdpfpaaGreatDoorHWords
import Derived.BigRegion
import Derived.Deep.MidRow
import Derived.Laws.ResultCell
namespace Go.Proofs.YtinnliapfdpfpaaGreatDoor
open Go.RowKit
/-- The first n cells of a block are these words, and may be written. -/
def arr32 (w : World) (b : Nat) (f : Nat → Nat) (n : Nat) : Prop := ∀ j, j < n → w.cell? ⟨b, j, none⟩ = some (.int .u32 (f j : Nat)) ∧ w.frozen? ⟨b, j, none⟩ = false
theorem arr32.set {w : World} {b : Nat} {f : Nat → Nat} {n : Nat} (h : arr32 w b f n) (k x : Nat) (hk : k < n) : arr32 (w.setCell ⟨b, k, none⟩ (.int .u32 (x : Nat))) b (fun j => if j = k then x else f j) n := by
  intro j hj
  obtain ⟨h1, h2⟩ := h j hj
  by_cases e : j = k
  · subst e
    exact ⟨by simp [go_sem, h1], by simp [go_sem, h2]⟩
  · refine ⟨?_, by simp [go_sem, h2]⟩
    rw [World.cell?_setCell_other _ _ _ _ (by simp)]
    simpa [e] using h1
theorem arr32.congr {w : World} {b : Nat} {f g : Nat → Nat} {n : Nat} (h : arr32 w b f n) (e : ∀ j, j < n → f j = g j) : arr32 w b g n := fun j hj => by rw [← e j hj]; exact h j hj
theorem arr32.drewN {w : World} {b : Nat} {f : Nat → Nat} {n : Nat} (h : arr32 w b f n) (q : Nat) : arr32 (w.drewN q) b f n := h
/-- Words from a list, noughts behind it. -/
def fOf (l : List Nat) (j : Nat) : Nat := l.getD j 0
theorem fOf_snoc (l : List Nat) (x j : Nat) : fOf (l ++ [x]) j = if j = l.length then x else fOf l j := by
  unfold fOf
  simp only [List.getD_eq_getElem?_getD, List.getElem?_append]
  split
  · rw [if_neg (by omega)]
  · by_cases e : j = l.length
    · simp [e]
    · rw [if_neg e, List.getElem?_eq_none (l := l) (by omega), List.getElem?_eq_none (by simp; omega)]
theorem or4 (a b c d : Nat) (ha : a < 256) (hb : b < 256) (hc : c < 256) (hd : d < 256) :
    bits BinOp.or IntKind.u32 (bits BinOp.or IntKind.u32 (bits BinOp.or IntKind.u32 ((a : Int) * 16777216) ((b : Int) * 65536)) ((c : Int) * 256)) (d : Int) = ((a * 16777216 + b * 65536 + c * 256 + d : Nat) : Int) := by
  rw [show ((a : Int) * 16777216) = ((a * 16777216 : Nat) : Int) from by simp, show ((b : Int) * 65536) = ((b * 65536 : Nat) : Int) from by simp, show ((c : Int) * 256) = ((c * 256 : Nat) : Int) from by simp]
  rw [u32_or_nat _ _ (by omega) (by omega), nat_join 24 (a * 16777216) (b * 65536) (by omega) (by omega),
    u32_or_nat _ _ (by omega) (by omega), nat_join 16 (a * 16777216 + b * 65536) (c * 256) (by omega) (by omega),
    u32_or_nat _ _ (by omega) (by omega), nat_join 8 (a * 16777216 + b * 65536 + c * 256) d (by omega) (by omega)]
theorem zeros_cell (w : World) (t : TypeId) (n j : Nat) (hj : j < n) : (w.alloc (.cells (Array.replicate n (.int .u32 0)) t)).cell? ⟨w.heap.size, j, none⟩ = some (.int .u32 0) := by
  rw [World.cell?_alloc_at (hn := rfl)]
  simp [hj]
theorem arr32.range {w : World} {b : Nat} {n : Nat} (l : List Nat) (hl : l.length = n) (h : arr32 w b (fOf l) n) : w.rangeAt b 0 (l.map (fun x : Nat => Value.int .u32 (x : Int))) := by
  intro j v hv
  have hj : j < l.length := by
    have := (List.getElem?_eq_some_iff.1 hv).1
    simpa using this
  obtain ⟨h1, _⟩ := h j (by omega)
  rw [Nat.zero_add, h1]
  simp only [List.getElem?_map, List.getElem?_eq_getElem hj, Option.map_some, Option.some.injEq] at hv
  rw [← hv, fOf, List.getD_eq_getElem?_getD, List.getElem?_eq_getElem hj]; rfl
theorem zeros_free (w : World) (t : TypeId) (c : Array Value) (j : Nat) : (w.alloc (.cells c t)).frozen? ⟨w.heap.size, j, none⟩ = false := by rw [World.frozen?_alloc_at (hn := rfl)]
theorem zeros_arr (w : World) (t t' : TypeId) (c : Array Value) : arr32 ((w.alloc (.cells c t')).alloc (.cells (Array.replicate 64 (.int .u32 0)) t)) (w.heap.size + 1) (fOf []) 64 := by
  intro j hj
  have h1 := zeros_cell (w.alloc (.cells c t')) t 64 j hj
  have h2 := zeros_free (w.alloc (.cells c t')) t (Array.replicate 64 (.int .u32 0)) j
  have e : (w.alloc (.cells c t')).heap.size = w.heap.size + 1 := by simp
  rw [e] at h1 h2
  exact ⟨h1, h2⟩
theorem zeros_there (w : World) (t : TypeId) (o : Obj) : ((w.alloc (.cells (Array.replicate 64 (.int .u32 0)) t)).alloc o).there w.heap.size 0 64 := by
  refine World.there_alloc ?_ o
  intro j hj
  rw [Nat.zero_add, zeros_cell w t 64 j hj, zeros_free]
  exact ⟨rfl, rfl⟩
theorem there_set {w : World} {b o n : Nat} (h : w.there b o n) (b' o' : Nat) (v : Value) : (w.setCell ⟨b', o', none⟩ v).there b o n := World.there_setCells h b' o' [v]
theorem below_setCells {B : Nat} (w : World) (b : Nat) : ∀ (vs : List Value) (o : Nat), B ≤ b → Below B w (w.setCells b o vs) := by
  intro vs
  induction vs generalizing w with
  | nil => intro o _; exact Below.refl _ _
  | cons v r ih => intro o hb; exact ((Below.refl B w).setCell hb v).trans (ih (w.setCell ⟨b, o, none⟩ v) (o + 1) hb)
theorem results_cell {fn : Func} {p : Tmp} {ty : TypeId} (h : fn.results = #[.cell p ty]) (tmps : Array Value) (P : Program) (w : World) (b o : Nat) (hp : tmps.getD p undef = .pointer (some ⟨b, o, none⟩)) (v : Value)
    (hl : (loadVar ty ⟨b, o, none⟩).run P w = .ok v w) : (results fn tmps).run P w = .ok v w := by
  have hp' : tmps[p]?.getD undef = .pointer (some ⟨b, o, none⟩) := by simpa using hp
  simp only [results, h]
  simp [hp', asAddr, hl]
set_option maxRecDepth 100000 in
set_option maxHeartbeats 1000000 in
theorem schedule_any (s : ByteArray) (hs : s.size = 64) (w : World) :
    Calls Tryz.prog 215 #[.string s] w fun e w' => e = .returned (.agg ((sch (firsts s.data.toList 0 16) 48).map (fun x : Nat => Value.int .u32 (x : Int))).toArray) ∧ Below w.heap.size w w' := by
  go_enter Tryz.func215, Tryz.ntmps215
  go_wp2
  go_loopw [6] (fun i wr => ∃ k : Nat, k ≤ 16 ∧ i = .int .i64 k ∧ arr32 wr (w.heap.size + 1) (fOf (firsts s.data.toList 0 k)) 64 ∧ Below w.heap.size w wr ∧ wr.there w.heap.size 0 64) (fun i _ => 16 - (intOf i).toNat)
  case atStart => 
    refine ⟨0, by omega, rfl, zeros_arr w _ _ _, ((Below.refl _ _).alloc (Nat.le_refl _) _).alloc (by simp) _, zeros_there w _ _⟩
  case round =>
    obtain ⟨k, hk, rfl, harr, hbel, hth⟩ := hrel
    by_cases hlt : k < 16
    · have p0 : 4 * k < s.size := by omega
      have p1 : 4 * k + 1 < s.size := by omega
      have p2 : 4 * k + 2 < s.size := by omega
      have p3 : 4 * k + 3 < s.size := by omega
      have HS : Hid (s.size = 64) := hs
      clear hs
      have hbk0 : s[4 * k].toNat < 256 := UInt8.toNat_lt _
      have hbk1 : s[4 * k + 1].toNat < 256 := UInt8.toNat_lt _
      have hbk2 : s[4 * k + 2].toNat < 256 := UInt8.toNat_lt _
      have hbk3 : s[4 * k + 3].toNat < 256 := UInt8.toNat_lt _
      have k0 : (0 : Int) ≤ (k : Int) := by omega
      have k1 : (k : Int) < 64 := by omega
      obtain ⟨ca, cf⟩ := harr k (by omega)
      have m0 : IntKind.i64.wrap (4 * (k : Int)) = 4 * (k : Int) := by rw [IntKind.wrap_i64]; omega
      have m1 : IntKind.i64.wrap (4 * (k : Int) + 1) = 4 * (k : Int) + 1 := by rw [IntKind.wrap_i64]; omega
      have m2 : IntKind.i64.wrap (4 * (k : Int) + 2) = 4 * (k : Int) + 2 := by rw [IntKind.wrap_i64]; omega
      have m3 : IntKind.i64.wrap (4 * (k : Int) + 3) = 4 * (k : Int) + 3 := by rw [IntKind.wrap_i64]; omega
      have n0 : (0 : Int) ≤ 4 * (k : Int) ∧ 4 * (k : Int) < (s.size : Int) := by omega
      have n1 : (0 : Int) ≤ 4 * (k : Int) + 1 ∧ 4 * (k : Int) + 1 < (s.size : Int) := by omega
      have n2 : (0 : Int) ≤ 4 * (k : Int) + 2 ∧ 4 * (k : Int) + 2 < (s.size : Int) := by omega
      have n3 : (0 : Int) ≤ 4 * (k : Int) + 3 ∧ 4 * (k : Int) + 3 < (s.size : Int) := by omega
      have t0 : (4 * (k : Int)).toNat = 4 * k := by omega
      have t1 : (4 * (k : Int) + 1).toNat = 4 * k + 1 := by omega
      have t2 : (4 * (k : Int) + 2).toNat = 4 * k + 2 := by omega
      have t3 : (4 * (k : Int) + 3).toNat = 4 * k + 3 := by omega
      go_wp2_with fail
      go_region
      have E := or4 s[4 * k].toNat s[4 * k + 1].toNat s[4 * k + 2].toNat s[4 * k + 3].toNat hbk0 hbk1 hbk2 hbk3
      have G0 := byteAt_get s (4 * k) p0
      have G1 := byteAt_get s (4 * k + 1) p1
      have G2 := byteAt_get s (4 * k + 2) p2
      have G3 := byteAt_get s (4 * k + 3) p3
      have HE : Hid (bits BinOp.or IntKind.u32 (bits BinOp.or IntKind.u32 (bits BinOp.or IntKind.u32 ((s[4 * k].toNat : Int) * 16777216) ((s[4 * k + 1].toNat : Int) * 65536)) ((s[4 * k + 2].toNat : Int) * 256)) (s[4 * k + 3].toNat : Int) = (wpart s.data.toList (0 + 4 * k) 4 : Nat)) := by
        show _ = _
        rw [E, ← G0, ← G1, ← G2, ← G3]
        simp only [wpart, Nat.zero_add, Nat.add_zero]
        omega
      clear E G0 G1 G2 G3
      go_wp2
      go_roundw
      case rel =>
        refine ⟨k + 1, by omega, by go_num, ?_, (hbel.setCell (by simp) _).drew, there_set hth _ _ _⟩
        rw [HE.out]
        refine (harr.set k _ (by omega)).congr fun j _ => ?_
        have hl := firsts_len s.data.toList 0 k
        have e := fOf_snoc (firsts s.data.toList 0 k) (wpart s.data.toList (0 + 4 * k) 4) j
        rw [hl] at e
        exact e.symm
      case measure => simp [intOf]; omega
    · have hk16 : k = 16 := by omega
      rw [hk16] at harr
      have hfs := firsts_small s.data.toList 0 16
      have hfl := firsts_len s.data.toList 0 16
      generalize hm0 : firsts s.data.toList 0 16 = m at *
      have HM0 : Hid (firsts s.data.toList 0 16 = m) := hm0
      have HS : Hid (s.size = 64) := hs
      clear hm0 hk16 hs
      go_wp2
      go_loopw [5] (fun i wr => ∃ k : Nat, k ≤ 48 ∧ i = .int .i64 ((k : Int) + 16) ∧ arr32 wr (w.heap.size + 1) (fOf (sch m k)) 64 ∧ Below w.heap.size w wr ∧ wr.there w.heap.size 0 64) (fun i _ => 64 - (intOf i).toNat)
      case atStart => exact ⟨0, by omega, rfl, harr, hbel, hth⟩
      case round =>
        clear harr hbel hth
        obtain ⟨k, hk, rfl, harr, hbel, hth⟩ := hrel
        have hql := sch_len m k
        have hqs := sch_small hfs k
        have HQ : Hid (sch m (k + 1) = sch m k ++ [nxt (sch m k)]) := rfl
        generalize hq0 : sch m k = q at *
        have HQ0 : Hid (sch m k = q) := hq0
        clear hq0
        by_cases hlt : k < 48
        · have HN : Hid (nxt q = (q.getD k 0 + ss0 (q.getD (k + 1) 0) + q.getD (k + 9) 0 + ss1 (q.getD (k + 14) 0)) % 4294967296) := by
            show _ = _
            unfold nxt; rw [hql, hfl, show 16 + k - 16 = k from by omega, show 16 + k - 15 = k + 1 from by omega, show 16 + k - 7 = k + 9 from by omega, show 16 + k - 2 = k + 14 from by omega]
          have x0 := hqs k
          have x1 := hqs (k + 1)
          have x9 := hqs (k + 9)
          have x14 := hqs (k + 14)
          have c0 := (harr k (by omega)).1
          have c1 := (harr (k + 1) (by omega)).1
          have c9 := (harr (k + 9) (by omega)).1
          have c14 := (harr (k + 14) (by omega)).1
          obtain ⟨c16, f16⟩ := harr (k + 16) (by omega)
          simp only [fOf] at c0 c1 c9 c14 c16
          generalize q.getD k 0 = y0 at *
          generalize q.getD (k + 1) 0 = y1 at *
          generalize q.getD (k + 9) 0 = y9 at *
          generalize q.getD (k + 14) 0 = y14 at *
          generalize q.getD (k + 16) 0 = y16 at *
          have s0 := ss0_lt y1 x1
          have s1 := ss1_lt y14 x14
          have i2 : IntKind.i64.wrap ((k : Int) + 16 - 2) = (k : Int) + 14 := by rw [IntKind.wrap_i64]; omega
          have i7 : IntKind.i64.wrap ((k : Int) + 16 - 7) = (k : Int) + 9 := by rw [IntKind.wrap_i64]; omega
          have i15 : IntKind.i64.wrap ((k : Int) + 16 - 15) = (k : Int) + 1 := by rw [IntKind.wrap_i64]; omega
          have i16 : IntKind.i64.wrap (k : Int) = (k : Int) := by rw [IntKind.wrap_i64]; omega
          have n0 : (0 : Int) ≤ (k : Int) ∧ (k : Int) < 64 := by omega
          have n1 : (0 : Int) ≤ (k : Int) + 1 ∧ (k : Int) + 1 < 64 := by omega
          have n9 : (0 : Int) ≤ (k : Int) + 9 ∧ (k : Int) + 9 < 64 := by omega
          have n14 : (0 : Int) ≤ (k : Int) + 14 ∧ (k : Int) + 14 < 64 := by omega
          have n16 : (0 : Int) ≤ (k : Int) + 16 ∧ (k : Int) + 16 < 64 := by omega
          have t1 : ((k : Int) + 1).toNat = k + 1 := by omega
          have t9 : ((k : Int) + 9).toNat = k + 9 := by omega
          have t14 : ((k : Int) + 14).toNat = k + 14 := by omega
          have t16 : ((k : Int) + 16).toNat = k + 16 := by omega
          have hdk : decide ((k : Int) + 16 < 64) = true := by simp; omega
          go_wp2_with fail
          go_region_held3 (fun w' => w'.cell? ⟨w.heap.size + 1, k, none⟩ = some (.int .u32 y0) ∧ w'.cell? ⟨w.heap.size + 1, k + 1, none⟩ = some (.int .u32 y1) ∧ w'.cell? ⟨w.heap.size + 1, k + 9, none⟩ = some (.int .u32 y9) ∧ w'.cell? ⟨w.heap.size + 1, k + 14, none⟩ = some (.int .u32 y14)) (first | (simp [go_sem, c0, c1, c9, c14]; done) | (simp [go_sem, World.cell?_setCell_other, c0, c1, c9, c14]; done)) (first | (go_at_call 264; refine (sigS1 _ x14 _).mono ?_; rintro e' w' ⟨rfl, rfl⟩) | (go_at_call 265; refine (sigS0 _ x1 _).mono ?_; rintro e' w' ⟨rfl, rfl⟩))
          rename_i hHeld
          clear hHeld
          have HE : Hid (((((ss1 y14 : Nat) + (y9 : Int)) % 4294967296 + (ss0 y1 : Nat)) % 4294967296 + (y0 : Int)) % 4294967296 = (nxt q : Nat)) := by
            show _ = _
            rw [HN.out]
            generalize ss1 y14 = z1 at *
            generalize ss0 y1 = z0 at *
            omega
          go_wp2_with fail
          go_roundw
          case rel =>
            refine ⟨k + 1, by omega, by go_num, ?_, (hbel.setCell (by simp) _).drew, there_set hth _ _ _⟩
            rw [HE.out, HQ.out]
            refine (harr.set (k + 16) _ (by omega)).congr fun j _ => ?_
            have e := fOf_snoc q (nxt q) j
            rw [show q.length = k + 16 from by omega] at e
            exact e.symm
          case measure => simp [intOf]; omega
        · have HF : Hid (sch (firsts s.data.toList 0 16) 48 = q) := by show _ = _; rw [← HQ0.out, HM0.out, show k = 48 from by omega]
          have hdk : decide ((k : Int) + 16 < 64) = false := by simp; omega
          have hq64 : q.length = 64 := by omega
          have hr := arr32.range q hq64 harr
          clear HQ HQ0 hql hqs harr
          go_wp2_with (first | (refine wpList_load_mid rfl 299 _ rfl (w.heap.size + 1) 0 rfl (q.map (fun x : Nat => Value.int .u32 (x : Int))) _ hr Tryz.underlying299 rfl (by rw [List.length_map, hq64]; kernel_rfl) ?_) | (refine wpList_store_mid rfl 299 _ _ rfl w.heap.size 0 _ rfl rfl (by simpa [hq64] using hth) (by rw [List.size_toArray, List.length_map, hq64]; kernel_rfl) (all_oneCell_toArray (by intro v hv; simp at hv; obtain ⟨x, _, rfl⟩ := hv; rfl)) ?_))
          have hlen : (q.map (fun x : Nat => Value.int .u32 (x : Int))).length = 64 := by simp [hq64]
          have hr2 := World.rangeAt_setCells_same wr w.heap.size 0 (q.map (fun x : Nat => Value.int .u32 (x : Int))) (by rw [hlen]; exact hth)
          refine bodyPost_ret (v := .agg (q.map (fun x : Nat => Value.int .u32 (x : Int))).toArray) (results_cell rfl _ _ _ w.heap.size 0 rfl _ (run_loadVar_mid _ _ _ _ _ _ hr2 Tryz.underlying299 rfl (by rw [List.length_map, hq64]; kernel_rfl))) rfl ⟨by rw [HF.out], ?_⟩
          exact hbel.trans (below_setCells _ _ _ _ (Nat.le_refl _))
end Go.Proofs.YtinnliapfdpfpaaGreatDoor
