import Derived.Test.YtaeabbmekmjcaaaGreatDoorCDec
namespace Go.Proofs.YtaeabbmekmjcaaaGreatDoor.C
open Go.RowKit
def restLen (v : Value) : Nat := match v with | .string s => s.size | _ => 0
theorem drop1 (c : UInt8) (l : List UInt8) : (⟨(c :: l).toArray⟩ : ByteArray).extract 1 (l.length + 1) = ⟨l.toArray⟩ := by
  apply ByteArray.ext; simp
theorem drop3 (a b c : UInt8) (l : List UInt8) : (⟨(a :: b :: c :: l).toArray⟩ : ByteArray).extract 3 (l.length + 1 + 1 + 1) = ⟨l.toArray⟩ := by
  apply ByteArray.ext; simp
theorem rl (l : List UInt8) : restLen (.string ⟨l.toArray⟩) = l.length := by simp [restLen, ByteArray.size]
theorem dend {d : Option (List UInt8)} {o : List UInt8} (h : d = some o) : Ending.returned (.tuple #[.string ⟨o.toArray⟩, .int .i64 0]) = decEnd d := by rw [h]; rfl
theorem dendN {d : Option (List UInt8)} (h : d = none) : Ending.returned (.tuple #[.string ⟨#[]⟩, .int .i64 2]) = decEnd d := by rw [h]; rfl
set_option maxHeartbeats 1000000 in
theorem rdecode_any (s : ByteArray) (p : Bool) (w : World) (hs : s.size ≤ 4000000000) :
    Calls Tryz.prog 81 #[.string s, .bool p] w fun e w' => e = decEnd (dec p s.data.toList) ∧ Below w.heap.size w w' := by
  go_enter Tryz.func81, Tryz.ntmps81
  go_wp2
  go_loopw [0, 6] (fun x v wr => ∃ o r : List UInt8, x = .string ⟨r.toArray⟩ ∧ owns wr w.heap.size v o ∧ Below w.heap.size w wr ∧ dec p s.data.toList = (dec p r).map (o ++ ·) ∧ o.length + r.length ≤ 4000000000) (fun x _ _ => restLen x)
  case atStart => exact ⟨[], s.data.toList, by simp, by simpa [owns] using World.ownsRow_nil w w.heap.size 5 1, Below.refl _ _, by simp, by simpa using hs⟩
  case round =>
    obtain ⟨o, r, rfl, hown, hbel, hdec, hlen⟩ := hrel
    have HX : Hid (dec p s.data.toList = (dec p r).map (o ++ ·)) := hdec
    clear hdec
    have hsz := hbel.size
    match r with
    | [] =>
      have hcv := hown.conv
      have HN : Hid (dec p s.data.toList = some o) := by show _ = _; rw [HX.out, dec_nil]; simp
      go_wp2
      go_ret2
      exact ⟨dend HN.out, hbel⟩
    | c :: r =>
      simp only [List.length_cons] at hlen
      have hb := c.toNat_lt
      have i0 : ∀ h, (⟨(c :: r).toArray⟩ : ByteArray)[0]'h = c := fun _ => rfl
      cases hp : plainB (c.toNat : Int) p
      · by_cases hc : c.toNat = 37
        · have t37 : ((c.toNat : Int) != 37) = false := by simp [hc]
          match r with
          | [] =>
            have HN : Hid (dec p s.data.toList = none) := by show _ = _; rw [HX.out, dec_none (by simp) (dec1_pct0 hc)]; rfl
            clear HX hc
            go_wp2_with (go_at_call 57; refine (stands_any _ _ (by omega) (by omega) _).mono ?_; rintro e w' ⟨rfl, rfl⟩)
            go_ret2
            exact ⟨dendN HN.out, hbel⟩
          | [a] =>
            have HN : Hid (dec p s.data.toList = none) := by show _ = _; rw [HX.out, dec_none (by simp) (dec1_pct1 hc)]; rfl
            clear HX hc
            go_wp2_with (go_at_call 57; refine (stands_any _ _ (by omega) (by omega) _).mono ?_; rintro e w' ⟨rfl, rfl⟩)
            go_ret2
            exact ⟨dendN HN.out, hbel⟩
          | a :: b :: r =>
            simp only [List.length_cons] at hlen
            have i1 : ∀ h, (⟨(c :: a :: b :: r).toArray⟩ : ByteArray)[1]'h = a := fun _ => rfl
            have i2 : ∀ h, (⟨(c :: a :: b :: r).toArray⟩ : ByteArray)[2]'h = b := fun _ => rfl
            have ba := digV_bd (a.toNat : Int)
            have bb := digV_bd (b.toNat : Int)
            by_cases ha : 0 ≤ digV (a.toNat : Int)
            · by_cases hb' : 0 ≤ digV (b.toNat : Int)
              · have hd1 := dec1_pct (p := p) r hc ha hb'
                have hby := byte_of (16 * digV (a.toNat : Int) + digV (b.toNat : Int)) (by omega) (by omega)
                generalize UInt8.ofNat (16 * digV (a.toNat : Int) + digV (b.toNat : Int)).toNat = x at hd1 hby
                have HY : Hid (dec p s.data.toList = (dec p r).map ((o ++ [x]) ++ ·)) := by
                  show _ = _
                  rw [HX.out, dec_some hd1]; cases dec p r <;> simp
                have HB : Hid ((x.toNat : Int) = 16 * digV (a.toNat : Int) + digV (b.toNat : Int)) := hby
                have HE := drop3 c a b r
                have HV : Hid (([x].map u8v).toArray = #[.int .u8 (16 * digV (a.toNat : Int) + digV (b.toNat : Int))]) := by show _ = _; simp [u8v, hby]
                clear HX hd1 hby hc
                go_wp2_with (first | (go_at_call 57; refine (stands_any _ _ (by omega) (by omega) _).mono ?_; rintro e w' ⟨rfl, rfl⟩) | (go_at_call 111; refine (digit_any _ _).mono ?_; rintro e w' ⟨rfl, rfl⟩) | (at_builtin; refine app_law rfl _ _ rfl w.heap.size _ [x] _ rfl (hown.alloc _) _ 1 rfl rfl _ ((heap_alloc_new _ _).trans (by rw [HV.out])) (by omega) (by omega) (by simp; omega) ?_; intro v' w2 hown2 hb2))
                go_roundw
                case rel => exact ⟨o ++ [x], r, rfl, hown2, (hbel.alloc (by omega) _).trans hb2, HY.out, by simp; omega⟩
                case measure => rw [rl, rl]; simp; omega
              · have HN : Hid (dec p s.data.toList = none) := by show _ = _; rw [HX.out, dec_none (by simp) (dec1_pctB r hc (by omega))]; rfl
                clear HX hc
                go_wp2_with (first | (go_at_call 57; refine (stands_any _ _ (by omega) (by omega) _).mono ?_; rintro e w' ⟨rfl, rfl⟩) | (go_at_call 111; refine (digit_any _ _).mono ?_; rintro e w' ⟨rfl, rfl⟩))
                go_ret2
                exact ⟨dendN HN.out, hbel⟩
            · have HN : Hid (dec p s.data.toList = none) := by show _ = _; rw [HX.out, dec_none (by simp) (dec1_pctA (b :: r) hc (by omega))]; rfl
              clear HX hc
              go_wp2_with (first | (go_at_call 57; refine (stands_any _ _ (by omega) (by omega) _).mono ?_; rintro e w' ⟨rfl, rfl⟩) | (go_at_call 111; refine (digit_any _ _).mono ?_; rintro e w' ⟨rfl, rfl⟩))
              go_ret2
              exact ⟨dendN HN.out, hbel⟩
        · have HN : Hid (dec p s.data.toList = none) := by show _ = _; rw [HX.out, dec_none (by simp) (dec1_odd r hp hc)]; rfl
          have t37 : ((c.toNat : Int) != 37) = true := by simp; omega
          clear HX hc
          go_wp2_with (go_at_call 57; refine (stands_any _ _ (by omega) (by omega) _).mono ?_; rintro e w' ⟨rfl, rfl⟩)
          go_ret2
          exact ⟨dendN HN.out, hbel⟩
      · have HY : Hid (dec p s.data.toList = (dec p r).map ((o ++ [c]) ++ ·)) := by
          show _ = _
          rw [HX.out, dec_some (dec1_plain r hp)]; cases dec p r <;> simp
        have HE := drop1 c r
        clear HX
        go_wp2_with (first | (go_at_call 57; refine (stands_any _ _ (by omega) (by omega) _).mono ?_; rintro e w' ⟨rfl, rfl⟩) | (at_builtin; refine app_law rfl _ _ rfl w.heap.size _ [c] _ rfl (hown.alloc _) _ 1 rfl rfl _ (heap_alloc_new _ _) (by omega) (by omega) (by simp; omega) ?_; intro v' w2 hown2 hb2))
        go_roundw
        case rel => exact ⟨o ++ [c], r, rfl, hown2, (hbel.alloc (by omega) _).trans hb2, HY.out, by simp; omega⟩
        case measure => rw [rl, rl]; simp
end Go.Proofs.YtaeabbmekmjcaaaGreatDoor.C
