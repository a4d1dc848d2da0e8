/-
  PATTERNS, as the document's answer has them: row by row.
-/
import Derived.Test.YtinnliapfdpfpaaDoorPFit
import Derived.BigRegion
namespace Go.Proofs.YtinnliapfdpfpaaDoor.P
open Go.RowKit
open Go.Proofs.YtinnliapfdpfpaaDoor.C (ret_bool ret_int ret_str)

theorem Tryd.infoB : (Tryd.prog.info? 4).map (fun i => (i.zero, i.size, i.bytes)) = some (some (.bool false), 1, 1) := by kernel_rfl
def barr (w : World) (b : Nat) (f : Nat → Bool) (n : Nat) : Prop := ∀ j, j < n → w.cell? ⟨b, j, none⟩ = some (.bool (f j)) ∧ w.frozen? ⟨b, j, none⟩ = false
theorem barr.set {w : World} {b : Nat} {f : Nat → Bool} {n : Nat} (h : barr w b f n) (k : Nat) (x : Bool) : barr (w.setCell ⟨b, k, none⟩ (.bool x)) b (fun j => if j = k then x else f j) n := by
  intro j hj
  obtain ⟨h1, h2⟩ := h j hj
  by_cases e : j = k
  · subst e
    exact ⟨by simp [go_sem, h1], by simp [go_sem, h2]⟩
  · refine ⟨?_, by simp [go_sem, h2]⟩
    rw [World.cell?_setCell_other _ _ _ _ (by simp)]
    simpa [e] using h1
theorem barr.congr {w : World} {b : Nat} {f g : Nat → Bool} {n : Nat} (h : barr w b f n) (e : ∀ j, j < n → f j = g j) : barr w b g n := fun j hj => by rw [← e j hj]; exact h j hj
theorem barr.other {w : World} {b b' : Nat} {f : Nat → Bool} {n : Nat} (h : barr w b f n) (hb : b ≠ b') (v : Value) (k : Nat) : barr (w.setCell ⟨b', k, none⟩ v) b f n := fun j hj => ⟨(by rw [World.cell?_setCell_other _ _ _ _ (by simp )]; exact (h j hj).1), (by simp [go_sem, (h j hj).2])⟩
theorem barr.drewN {w : World} {b : Nat} {f : Nat → Bool} {n : Nat} (h : barr w b f n) (q : Nat) : barr (w.drewN q) b f n := fun j hj => ⟨(h j hj).1, (h j hj).2⟩
theorem barr.drew {w : World} {b : Nat} {f : Nat → Bool} {n : Nat} (h : barr w b f n) : barr w.drew b f n := fun j hj => ⟨(h j hj).1, (h j hj).2⟩
theorem barr.grown {w w' : World} {b : Nat} {f : Nat → Bool} {n : Nat} (h : barr w b f n) (k : w.grownBy w' none) : barr w' b f n := fun j hj => by
  have hl : b < w.heap.size := World.block_lt_of_cell? w ⟨b, j, none⟩ (h j hj).1
  have e := k.block b hl (by simp)
  exact ⟨(World.cell?_of_block (a := ⟨b, j, none⟩) e).trans (h j hj).1, (World.frozen?_of_block (a := ⟨b, j, none⟩) e).trans (h j hj).2⟩
theorem made_barr {w : World} {B g n c : Nat} (h : w.ownsRow B 4 1 (.slice (some ⟨g, 0, none⟩) n c) n (madeCells (Value.bool false).cells (n * 1)).toList) : barr w g (fun _ => false) n := by
  intro j hj
  have hc := World.ownsRow.cells h (g := g) rfl j (.bool false) (by simp [madeCells, hj, Value.cells, Nat.mod_one])
  have e : (⟨g, 0, none⟩ : Addr).add j = ⟨g, j, none⟩ := by unfold Addr.add; split <;> simp_all
  rw [e] at hc
  refine ⟨hc, ?_⟩
  obtain ⟨_, ⟨h1, _⟩ | ⟨g', cap, cur, e1, e2, e3, _⟩⟩ := h
  · cases h1
  · cases e1
    simp [World.frozen?, e3]
/-- The row so far. -/
def nextF (p key : List UInt8) (i k : Nat) : Nat → Bool := fun j => if j < k then like (p.take (i + 1)) (key.take j) else false
theorem next_step {p key : List UInt8} {i k : Nat} {x : Bool} (hx : x = like (p.take (i + 1)) (key.take k)) : ∀ j, (if j = k then x else nextF p key i k j) = nextF p key i (k + 1) j := by
  intro j
  unfold nextF
  by_cases e : j = k
  · subst e; rw [if_pos rfl, if_pos (by omega), hx]
  · rw [if_neg e]
    by_cases e2 : j < k
    · rw [if_pos e2, if_pos (by omega)]
    · rw [if_neg e2, if_neg (by omega)]
theorem ptake {p : List UInt8} {i : Nat} (h : i < p.length) : p.take (i + 1) = p.take i ++ [p[i]] := by rw [List.take_add_one, List.getElem?_eq_getElem h]; rfl
set_option maxHeartbeats 8000000 in
set_option maxRecDepth 20000 in
theorem rfits_any (p key : List UInt8) (w : World) (hp : p.length ≤ 4000) (hk : key.length ≤ 140737488355327) :
    Calls Tryd.prog 95 #[str p, str key] w fun e w' => e = .returned (.bool (like p key)) ∧ Below w.heap.size w w' := by
  obtain ⟨i0, hi, hz0, hz1, hz2⟩ := info_parts Tryd.infoB
  go_enter Tryd.func95, Tryd.ntmps95
  go_wp2_with (at_make; refine wpList_make_full _ rfl _ _ 170 rfl w.heap.size 4 i0 (.bool false) 1 Tryd.underlying170 hi hz0 hz1 .i64 .i64 _ _ (key.length + 1) rfl rfl (by simp) (by simp) (by rw [hz2]; omega) (by unfold maxLen; omega) (Nat.le_refl _) ?_; intro w1 hown1 hg1; have ha1 := made_barr hown1; have hb1 := (Below.refl w.heap.size w).grown hg1 (Nat.le_refl _) (by simp); have c0 := (ha1 0 (by omega)).1; have f0 := (ha1 0 (by omega)).2; clear hown1)
  have HA1 : Hid (barr (w1.setCell ⟨w.heap.size, 0, none⟩ (.bool true)) w.heap.size (fun j => like (p.take 0) (key.take j)) (key.length + 1)) :=
    (ha1.set 0 true).congr fun j hj => by
      rw [List.take_zero, row_zero key j (by omega)]
      by_cases e : j = 0
      · rw [if_pos e]; simp [e]
      · rw [if_neg e]; simp [e]
  have hz1' := hg1.size
  have hlt1 : w.heap.size < w1.heap.size := World.block_lt_of_cell? w1 ⟨w.heap.size, 0, none⟩ c0
  have HB1 : Hid (Below w.heap.size w (w1.setCell ⟨w.heap.size, 0, none⟩ (.bool true))) := hb1.setCell (p := ⟨w.heap.size, 0, none⟩) (Nat.le_refl _) _
  clear ha1 hb1 c0 f0 hg1
  go_loopw [5, 6] (fun rv iv wr => ∃ (g i : Nat), rv = .slice (some ⟨g, 0, none⟩) (key.length + 1) (key.length + 1) ∧ iv = .int .i64 i ∧ i ≤ p.length ∧ w.heap.size ≤ g ∧ barr wr g (fun j => like (p.take i) (key.take j)) (key.length + 1) ∧ Below w.heap.size w wr) (fun _ iv _ => p.length - (intOf iv).toNat)
  case atStart => exact ⟨w.heap.size, 0, rfl, rfl, Nat.zero_le _, Nat.le_refl _, HA1.out, HB1.out⟩
  case round =>
    clear HA1 HB1 hlt1 hz1'
    obtain ⟨g, i, rfl, rfl, hip, hgw, hrow, hb⟩ := hrel
    by_cases hi' : i < p.length
    · have hgl : g < wr.heap.size := World.block_lt_of_cell? wr ⟨g, 0, none⟩ (hrow 0 (by omega)).1
      have hsz := hb.size
      have hps : i < (⟨p.toArray⟩ : ByteArray).size := hi'
      have hpx : (⟨p.toArray⟩ : ByteArray)[i]'hps = p[i] := rfl
      go_wp2_with (at_make; refine wpList_make_full _ rfl _ _ 170 rfl w.heap.size 4 i0 (.bool false) 1 Tryd.underlying170 hi hz0 hz1 .i64 .i64 _ _ (key.length + 1) rfl rfl (by simp) (by simp) (by rw [hz2]; omega) (by unfold maxLen; omega) (by omega) ?_; intro w2 hown2 hg2; have ha2 := made_barr hown2; have hr2 := hrow.grown hg2; have hb2 := hb.grown hg2 (by omega) (by simp); clear hown2)
      have hz2' := hg2.size
      obtain ⟨H, hH⟩ : ∃ H, H = wr.heap.size := ⟨_, rfl⟩
      rw [← hH] at ha2
      have hne : g ≠ H := by omega
      have hHw : w.heap.size ≤ H := by omega
      have HH : Hid (H = wr.heap.size) := hH
      rw [← hH]
      clear hH hrow hb hg2 hgl hz2'
      obtain ⟨W, rfl⟩ : ∃ W, W = wr := ⟨_, rfl⟩
      go_wp2
      go_loopw [8] (fun kv wr => ∃ k : Nat, k ≤ key.length + 1 ∧ kv = .int .i64 k ∧ barr wr g (fun j => like (p.take i) (key.take j)) (key.length + 1) ∧ barr wr H (nextF p key i k) (key.length + 1) ∧ Below w.heap.size w wr) (fun kv _ => key.length + 1 - (intOf kv).toNat)
      case atStart => exact ⟨0, Nat.zero_le _, rfl, hr2, ha2.congr (fun j _ => by unfold nextF; rw [if_neg (by omega)]), hb2⟩
      case round =>
        clear hr2 ha2 hb2
        obtain ⟨k, hkl, rfl, hrow, hnx, hb⟩ := hrel
        by_cases hk1 : k ≤ key.length
        · have q0 : decide ((k : Int) ≤ (key.length : Int)) = true := by simp; omega
          have cr : wr.cell? ⟨g, k, none⟩ = some (.bool (like (p.take i) (key.take k))) := (hrow k (by omega)).1
          obtain ⟨cn, fn⟩ := hnx k (by omega)
          by_cases h42 : p[i].toNat = 42
          · have e42 : p[i] = 42 := UInt8.toNat_inj.1 h42
            have p1 : ((((⟨p.toArray⟩ : ByteArray)[i]'hps).toNat : Int) == 42) = true := by rw [hpx]; simp; omega
            have hstar := row_star (p.take i) key k hk1
            have hpt : p.take (i + 1) = p.take i ++ [42] := by rw [ptake hi', e42]
            clear hpx h42
            cases hrk : like (p.take i) (key.take k) with
            | true =>
              have HX : Hid (true = like (p.take (i + 1)) (key.take k)) := by show _ = _; rw [hpt, hstar, hrk]; rfl
              rw [hrk] at cr
              clear hstar hpt
              go_wp2
              go_roundw
              case rel => exact ⟨k + 1, by omega, by go_num, hrow.other hne _ _, (hnx.set k true).congr (fun j _ => next_step HX.out j), hb.setCell (p := ⟨H, k, none⟩) hHw _⟩
              case measure => simp [intOf]; omega
            | false =>
              rw [hrk] at cr
              rcases k with _ | k'
              · have HX : Hid (false = like (p.take (i + 1)) (key.take 0)) := by show _ = _; rw [hpt, hstar, hrk]; rfl
                clear hstar hpt
                go_wp2
                go_roundw
                case rel => exact ⟨0 + 1, by omega, by go_num, hrow.other hne _ _, (hnx.set (0) (false)).congr (fun j _ => next_step HX.out j), hb.setCell (p := ⟨H, 0, none⟩) hHw _⟩
                case measure => simp [intOf]
              · have cn1 : wr.cell? ⟨H, k', none⟩ = some (.bool (like (p.take (i + 1)) (key.take k'))) := by
                  have := (hnx k' (by omega)).1
                  rwa [nextF, if_pos (by omega)] at this
                have HX : Hid (like (p.take (i + 1)) (key.take k') = like (p.take (i + 1)) (key.take (k' + 1))) := by
                  show _ = _
                  conv => rhs; rw [hpt, hstar, hrk]
                  rw [hpt]; simp
                clear hstar hpt
                go_wp2
                go_roundw
                case rel => exact ⟨k' + 1 + 1, by omega, by go_num, hrow.other hne _ _, (hnx.set (k' + 1) (like (p.take (i + 1)) (key.take k'))).congr (fun j _ => next_step HX.out j), hb.setCell (p := ⟨H, k' + 1, none⟩) hHw _⟩
                case measure => simp [intOf]; omega
          · have n42 : p[i] ≠ 42 := fun e => h42 (by rw [e]; rfl)
            have p1 : ((((⟨p.toArray⟩ : ByteArray)[i]'hps).toNat : Int) == 42) = false := by rw [hpx]; simp; omega
            have hone := row_one n42 (p.take i) key k hk1
            rw [← ptake hi'] at hone
            rcases k with _ | k'
            · have HX : Hid (false = like (p.take (i + 1)) (key.take 0)) := by show _ = _; rw [hone]; rfl
              clear hone hpx
              go_wp2_with fail
              go_region
              all_goals go_wp2
              go_roundw
              case rel => exact ⟨0 + 1, by omega, by go_num, hrow.drew.other hne _ _, (hnx.drew.set (0) (false)).congr (fun j _ => next_step HX.out j), hb.drew.setCell (p := ⟨H, 0, none⟩) hHw _⟩
              case measure => simp [intOf]
            · have cr1 : wr.cell? ⟨g, k', none⟩ = some (.bool (like (p.take i) (key.take k'))) := (hrow k' (by omega)).1
              have hk' : k' < key.length := by omega
              have hks : k' < (⟨key.toArray⟩ : ByteArray).size := hk'
              have hky : (⟨key.toArray⟩ : ByteArray)[k']'hks = key[k'] := rfl
              have hxl := p[i].toNat_lt
              have hyl := key[k'].toNat_lt
              have hone2 : like (p.take (i + 1)) (key.take (k' + 1)) = (like (p.take i) (key.take k') && (p[i] == 63 || p[i] == key[k'])) := by
                rw [hone]; simp [List.getElem?_eq_getElem hk']
              rw [hone2] at hone
              cases hr : like (p.take i) (key.take k') with
              | false =>
                have HX : Hid (false = like (p.take (i + 1)) (key.take (k' + 1))) := by show _ = _; rw [hone2, hr]; rfl
                rw [hr] at cr1
                clear hone2
                clear hone hpx hky
                go_wp2_with fail
                go_region
                all_goals go_wp2
                go_roundw
                case rel => exact ⟨k' + 1 + 1, by omega, by go_num, hrow.drew.other hne _ _, (hnx.drew.set (k' + 1) (false)).congr (fun j _ => next_step HX.out j), hb.drew.setCell (p := ⟨H, k' + 1, none⟩) hHw _⟩
                case measure => simp [intOf]; omega
              | true =>
                rw [hr] at cr1
                by_cases h63 : p[i].toNat = 63
                · have HX : Hid (true = like (p.take (i + 1)) (key.take (k' + 1))) := by show _ = _; rw [hone2, hr, show p[i] = 63 from UInt8.toNat_inj.1 h63]; rfl
                  have p2 : ((((⟨p.toArray⟩ : ByteArray)[i]'hps).toNat : Int) == 63) = true := by rw [hpx]; simp; omega
                  clear hone2
                  clear hone hpx hky
                  go_wp2_with fail
                  go_region
                  all_goals go_wp2
                  go_roundw
                  case rel => exact ⟨k' + 1 + 1, by omega, by go_num, hrow.drew.other hne _ _, (hnx.drew.set (k' + 1) (true)).congr (fun j _ => next_step HX.out j), hb.drew.setCell (p := ⟨H, k' + 1, none⟩) hHw _⟩
                  case measure => simp [intOf]; omega
                · have p2 : ((((⟨p.toArray⟩ : ByteArray)[i]'hps).toNat : Int) == 63) = false := by rw [hpx]; simp; omega
                  have e63 : (p[i] == 63) = false := by simp only [beq_eq_false_iff_ne]; intro e; exact h63 (by rw [e]; rfl)
                  by_cases hxy : p[i].toNat = key[k'].toNat
                  · have HX : Hid (true = like (p.take (i + 1)) (key.take (k' + 1))) := by show _ = _; rw [hone2, hr, show p[i] = key[k'] from UInt8.toNat_inj.1 hxy]; simp
                    have p3 : ((((⟨p.toArray⟩ : ByteArray)[i]'hps).toNat : Int) == (((⟨key.toArray⟩ : ByteArray)[k']'hks).toNat : Int)) = true := by rw [hpx, hky, hxy]; simp
                    clear hone2
                    clear hone hpx hky
                    go_wp2_with fail
                    go_region
                    all_goals go_wp2
                    go_roundw
                    case rel => exact ⟨k' + 1 + 1, by omega, by go_num, hrow.drew.other hne _ _, (hnx.drew.set (k' + 1) (true)).congr (fun j _ => next_step HX.out j), hb.drew.setCell (p := ⟨H, k' + 1, none⟩) hHw _⟩
                    case measure => simp [intOf]; omega
                  · have exy : (p[i] == key[k']) = false := by simp only [beq_eq_false_iff_ne]; intro e; exact hxy (by rw [e])
                    have HX : Hid (false = like (p.take (i + 1)) (key.take (k' + 1))) := by show _ = _; rw [hone2, hr, e63, exy]; rfl
                    have p3 : ((((⟨p.toArray⟩ : ByteArray)[i]'hps).toNat : Int) == (((⟨key.toArray⟩ : ByteArray)[k']'hks).toNat : Int)) = false := by rw [hpx, hky]; simp; omega
                    clear hone2
                    clear hone hpx hky
                    go_wp2_with fail
                    go_region
                    all_goals go_wp2
                    go_roundw
                    case rel => exact ⟨k' + 1 + 1, by omega, by go_num, hrow.drew.other hne _ _, (hnx.drew.set (k' + 1) (false)).congr (fun j _ => next_step HX.out j), hb.drew.setCell (p := ⟨H, k' + 1, none⟩) hHw _⟩
                    case measure => simp [intOf]; omega
        · obtain rfl : k = key.length + 1 := by omega
          have q0 : decide (((key.length + 1 : Nat) : Int) ≤ (key.length : Int)) = false := by simp; omega
          go_wp2
          go_roundw
          case rel => exact ⟨H, i + 1, rfl, by go_num, by omega, hHw, hnx.congr (fun j hj => by unfold nextF; rw [if_pos hj]), hb⟩
          case measure => simp [intOf]; omega
    · obtain rfl : i = p.length := by omega
      have cE := (hrow key.length (by omega)).1
      simp only [List.take_length] at cE
      go_wp2
      go_ret
      exact ⟨rfl, hb⟩
end Go.Proofs.YtinnliapfdpfpaaDoor.P
