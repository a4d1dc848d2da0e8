/-
  SIGNATURES, the document's.
-/
import Derived.Test.YtinnliapfdpfpaaGreatDoorFForm0
namespace Go.Proofs.YtinnliapfdpfpaaGreatDoor.R
open Go.RowKit
open Go.Proofs.YtinnliapfdpfpaaGreatDoor.C (ret_bool ret_int)

theorem ba_back (k : ByteArray) : (⟨k.data.toList.toArray⟩ : ByteArray) = k := by apply ByteArray.ext; simp
theorem rtag_b (k t : ByteArray) (a b : Bs) (ha : k.data.toList = a) (hb : t.data.toList = b) (h1 : a.length ≤ 400000000000000) (h2 : b.length ≤ 400000000000000) (w : World) :
    Calls Tryz.prog 77 #[.string k, .string t] w fun e w' => e = .returned (str (tagL a b)) ∧ Below w.heap.size w w' := by
  subst ha; subst hb
  have := rtag_any k.data.toList t.data.toList h1 h2 w
  rwa [ba_back, ba_back] at this
theorem rmac_b (k t : ByteArray) (a b : Bs) (ha : k.data.toList = a) (hb : t.data.toList = b) (h1 : a.length ≤ 400000000000000) (h2 : b.length ≤ 400000000000000) (w : World) :
    Calls Tryz.prog 78 #[.string k, .string t] w fun e w' => e = .returned (str (hexL lowF (tagL a b))) ∧ Below w.heap.size w w' := by
  subst ha; subst hb
  have := rmac_any k.data.toList t.data.toList h1 h2 w
  rwa [ba_back, ba_back] at this
/-- The day of a second, in digits. -/
def dayT (n : Nat) : Bs := Lib.decDigits (n / 86400)
def keyT (secret : Bs) (n : Nat) : Bs := tagL (tagL ([76, 49] ++ secret) (dayT n)) [108, 97, 114, 100, 101, 114]
def signT (_secret : Bs) (n : Nat) (form : Bs) : Bs := [76, 49, 10] ++ Lib.decDigits n ++ [10] ++ dayT n ++ [10] ++ hashT form
/-- The signature. -/
def sigT (secret : Bs) (n : Nat) (form : Bs) : Bs := hexL lowF (tagL (keyT secret n) (signT secret n form))
theorem dayT_len (n : Nat) (h : n ≤ 1000000000000) : (dayT n).length ≤ 1000000000001 := by
  have := dd_len (n / 86400)
  have h2 : n / 86400 ≤ n := Nat.div_le_self _ _
  unfold dayT
  omega
theorem rhash_r (l : Bs) (hl : l.length ≤ 400000000000000) (w : World) : Calls Tryz.prog 73 #[str l] w fun e w' => e = .returned (str (hashT l)) ∧ Below w.heap.size w w' := rhash_any l hl w

set_option maxRecDepth 20000 in
set_option maxHeartbeats 2000000 in
theorem rsig_any (secret : Bs) (n : Nat) (form : Bs) (w : World) (h1 : secret.length ≤ 1000000) (h2 : n ≤ 1000000000000) (h3 : form.length ≤ 400000000000000) :
    Calls Tryz.prog 41 #[str secret, .int .i64 n, str form] w fun e w' => e = .returned (str (sigT secret n form)) ∧ Below w.heap.size w w' := by
  have hd := dayT_len n h2
  have hn := dd_len n
  have hhl := hashT_len form
  have hdiv : (n : Int).tdiv 86400 = ((n / 86400 : Nat) : Int) := by rw [Int.tdiv_eq_ediv_of_nonneg (by omega)]; omega
  have HR : Hid (sigT secret n form = hexL lowF (tagL (keyT secret n) (signT secret n form))) := rfl
  have D1 : Hid (_) := rdecimal_any (n / 86400)
  rw [show Lib.decDigits (n / 86400) = dayT n from rfl] at D1
  have D2 : Hid (_) := rdecimal_any n
  have T1 : Hid (_) := fun k t => rtag_b k t ([76, 49] ++ secret) (dayT n)
  have T2 : Hid (_) := fun k t => rtag_b k t (tagL ([76, 49] ++ secret) (dayT n)) [108, 97, 114, 100, 101, 114]
  have T3 : Hid (_) := fun k t => rmac_b k t (keyT secret n) (signT secret n form)
  rw [show tagL (tagL ([76, 49] ++ secret) (dayT n)) [108, 97, 114, 100, 101, 114] = keyT secret n from rfl] at T2
  have hk : (keyT secret n).length ≤ 400000000000000 := by unfold keyT; rw [tagL_len]; omega
  have ht : (tagL ([76, 49] ++ secret) (dayT n)).length ≤ 400000000000000 := by rw [tagL_len]; omega
  have hs : (signT secret n form).length ≤ 400000000000000 := by
    unfold signT; simp only [List.length_append, List.length_cons, List.length_nil]; omega
  have HS : Hid (signT secret n form = [76, 49, 10] ++ Lib.decDigits n ++ [10] ++ dayT n ++ [10] ++ hashT form) := rfl
  go_enter Tryz.func41, Tryz.ntmps41
  go_wp2_with fail
  refine (D1.out _ (by omega)).mono ?_
  rintro e w1 ⟨rfl, k1, rfl⟩
  have b1 : Below w.heap.size w (w.drewN k1) := below_drewN (Below.refl _ _) k1
  generalize w.drewN k1 = w1 at *
  go_wp2_with fail
  refine (T1.out _ _ (by simp) (by simp) (by simp; omega) (by omega) _).mono ?_
  rintro e w2 ⟨rfl, hb2⟩
  have b2 := b1.trans (hb2.mono b1.size)
  go_wp2_with fail
  refine (T2.out _ _ (by simp) (by simp) ht (by simp) _).mono ?_
  rintro e w3 ⟨rfl, hb3⟩
  have b3 := b2.trans (hb3.mono b2.size)
  clear hb2 hb3 b1 b2
  go_wp2_with fail
  refine (D2.out _ (by omega)).mono ?_
  rintro e w4 ⟨rfl, k4, rfl⟩
  have b4 : Below w.heap.size w (w3.drewN k4) := below_drewN b3 k4
  generalize w3.drewN k4 = w4 at *
  go_wp2_with fail
  refine (rhash_r form h3 _).mono ?_
  rintro e w5 ⟨rfl, hb5⟩
  have b5 := b4.trans (hb5.mono b4.size)
  clear hb5 b3 b4
  go_wp2_with fail
  refine (T3.out _ _ (by simp) (by rw [HS.out]; simp) hk hs _).mono ?_
  rintro e w6 ⟨rfl, hb6⟩
  have b6 := b5.trans (hb6.mono b5.size)
  go_wp2
  go_ret
  exact ⟨ret_str HR.out.symm, b6⟩
/-- What signing answers. -/
def signOf (secret : Bs) (t : Int) (form : Bs) : Bs × Int :=
  if t < 0 ∨ 1000000000000 < t then ([], 5) else if secret = [] ∨ 40 < secret.length then ([], 1) else (sigT secret t.toNat form, 0)
def sgEnd (x : Bs × Int) : Ending := .returned (.tuple #[str x.1, .int .i64 x.2])
theorem sg_eq {x : Bs × Int} {a : Bs} {n : Int} (h : x = (a, n)) : Ending.returned (.tuple #[str a, .int .i64 n]) = sgEnd x := by rw [h]; rfl

set_option maxRecDepth 20000 in
set_option maxHeartbeats 2000000 in
theorem rsign_any (secret : Bs) (t : Int) (form : Bs) (w : World) (h3 : form.length ≤ 400000000000000) (h4 : secret.length ≤ 400000000000000) :
    Calls Tryz.prog 13 #[str secret, .int .i64 t, str form] w fun e w' => e = sgEnd (signOf secret t form) ∧ Below w.heap.size w w' := by
  by_cases h0 : t < 0
  · have HX : Hid (signOf secret t form = ([], 5)) := by show _ = _; unfold signOf; rw [if_pos (.inl h0)]
    go_enter Tryz.func13, Tryz.ntmps13
    go_wp2
    go_ret2
    exact ⟨sg_eq HX.out, Below.refl _ _⟩
  · by_cases h1 : 1000000000000 < t
    · have HX : Hid (signOf secret t form = ([], 5)) := by show _ = _; unfold signOf; rw [if_pos (.inr h1)]
      go_enter Tryz.func13, Tryz.ntmps13
      go_wp2
      go_ret2
      exact ⟨sg_eq HX.out, Below.refl _ _⟩
    · have hn : ¬ (t < 0 ∨ 1000000000000 < t) := by omega
      by_cases h2 : secret = []
      · have HX : Hid (signOf secret t form = ([], 1)) := by show _ = _; unfold signOf; rw [if_neg hn, if_pos (.inl h2)]
        have h2' : (secret == []) = true := by simpa using h2
        clear h2 hn
        go_enter Tryz.func13, Tryz.ntmps13
        go_wp2
        go_ret2
        exact ⟨sg_eq HX.out, Below.refl _ _⟩
      · have h2' : (secret == []) = false := by simpa using h2
        by_cases h5 : 40 < secret.length
        · have HX : Hid (signOf secret t form = ([], 1)) := by show _ = _; unfold signOf; rw [if_neg hn, if_pos (.inr h5)]
          have h5' : (40 : Int) < (secret.length : Int) := by omega
          clear h2 hn
          go_enter Tryz.func13, Tryz.ntmps13
          go_wp2
          go_ret2
          exact ⟨sg_eq HX.out, Below.refl _ _⟩
        · have HX : Hid (signOf secret t form = (sigT secret t.toNat form, 0)) := by show _ = _; unfold signOf; rw [if_neg hn, if_neg (by rintro (k | k); exact h2 k; exact h5 k)]
          have h5' : ¬ (40 : Int) < (secret.length : Int) := by omega
          obtain ⟨n, rfl⟩ : ∃ n : Nat, t = n := ⟨t.toNat, by omega⟩
          rw [Int.toNat_natCast] at HX
          have C : Hid (_) := rsig_any secret n form
          clear h2 hn
          go_enter Tryz.func13, Tryz.ntmps13
          go_wp2_with fail
          refine (C.out _ (by omega) (by omega) h3).mono ?_
          rintro e w1 ⟨rfl, hb1⟩
          go_wp2
          go_ret2
          exact ⟨sg_eq HX.out, hb1⟩
end Go.Proofs.YtinnliapfdpfpaaGreatDoor.R
