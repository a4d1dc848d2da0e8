/-
  SIGNATURES, the program's.
-/
import Derived.Test.YtinnliapfdpfpaaGreatDoorFSign
import Derived.Test.YtinnliapfdpfpaaGreatDoorMTag3
import Derived.Test.YtinnliapfdpfpaaGreatDoorRParse
namespace Go.Proofs.YtinnliapfdpfpaaGreatDoor.R
open Go.RowKit
open Go.Proofs.YtinnliapfdpfpaaGreatDoor.C (ret_bool ret_int)

theorem mtag_b (k t : ByteArray) (a b : Bs) (ha : k.data.toList = a) (hb : t.data.toList = b) (h1 : a.length ≤ 400000000000000) (h2 : b.length ≤ 400000000000000) (w : World) (h : Laid w) :
    Calls Tryz.prog 74 #[.string k, .string t] w fun e w' => e = .returned (.agg ((tagL a b).map u8v).toArray) ∧ Below w.heap.size w w' := by
  subst ha; subst hb
  have := mtag_any k.data.toList t.data.toList h1 h2 w h
  rwa [ba_back, ba_back] at this

set_option maxRecDepth 100000 in
set_option maxHeartbeats 1000000 in
theorem key_any (secret date : Bs) (w : World) (h : Laid w) (h1 : secret.length ≤ 1000000) (h2 : date.length ≤ 400000000000000) :
    Calls Tryz.prog 75 #[str secret, str date] w fun e w' => e = .returned (str (tagL (tagL ([76, 49] ++ secret) date) [108, 97, 114, 100, 101, 114])) ∧ Below w.heap.size w w' := by
  have C1 : Hid (_) := fun k t => mtag_b k t ([76, 49] ++ secret) date
  have C2 : Hid (_) := fun k t => mtag_b k t (tagL ([76, 49] ++ secret) date) [108, 97, 114, 100, 101, 114]
  have HH : Hid (Laid w) := h
  clear h
  have HD : Hid ((tagL ([76, 49] ++ secret) date).length = 32) := tagL_len _ _
  have HE : Hid ((tagL (tagL ([76, 49] ++ secret) date) [108, 97, 114, 100, 101, 114]).length = 32) := tagL_len _ _
  generalize tagL ([76, 49] ++ secret) date = D at *
  generalize tagL D [108, 97, 114, 100, 101, 114] = F at *
  have HLA : Hid ((D.map u8v).toArray.size = 32) := by show _ = _; rw [List.size_toArray, List.length_map]; exact HD.out
  have HON : Hid (∀ v ∈ D.map u8v, v.oneCell' = true) := by intro v hv; rw [List.mem_map] at hv; obtain ⟨x, _, rfl⟩ := hv; rfl
  have HLT : Hid ((D.map u8v).toArray.toList = D.map u8v) := rfl
  generalize hG : (D.map u8v).toArray = G at *
  have HG : Hid ((D.map u8v).toArray = G) := hG
  clear hG
  have HLA2 : Hid ((F.map u8v).toArray.size = 32) := by show _ = _; rw [List.size_toArray, List.length_map]; exact HE.out
  have HON2 : Hid (∀ v ∈ F.map u8v, v.oneCell' = true) := by intro v hv; rw [List.mem_map] at hv; obtain ⟨x, _, rfl⟩ := hv; rfl
  have HLT2 : Hid ((F.map u8v).toArray.toList = F.map u8v) := rfl
  generalize hG2 : (F.map u8v).toArray = G2 at *
  have HG2 : Hid ((F.map u8v).toArray = G2) := hG2
  clear hG2
  go_enter Tryz.func75, Tryz.ntmps75
  go_wp2_with fail
  refine (C1.out _ _ (by simp) (by simp) (by simp; omega) h2 _ HH.out).mono ?_
  rintro e w2 ⟨rfl, hb2⟩
  have HB2 : Hid (Below w.heap.size w w2) := hb2
  have HL2 : Hid (Laid w2) := HH.out.call hb2
  clear hb2
  have HBOX : Hid (_) := box32 D HD.out w2
  go_wp2_with (refine wpList_store_mid rfl 119 _ _ rfl w2.heap.size 0 G rfl rfl (by rw [HLA.out]; exact HBOX.out.1) (by rw [HLA.out]; kernel_rfl) (by rw [← HG.out]; exact all_oneCell_toArray HON.out) ?_; rw [HLT.out]; show wpList _ _ _ _ _ ((w2.alloc (.cells z32 119)).setCells w2.heap.size 0 (D.map u8v)); obtain ⟨_, ha3, hb3⟩ := HBOX.out; clear HBOX; generalize (w2.alloc (.cells z32 119)).setCells w2.heap.size 0 (D.map u8v) = w3 at *; have hcv := conv_arr8 D 32 32 HD.out w3 w2.heap.size ha3; have HB3 : Hid (Below w2.heap.size w2 w3) := hb3; have HL3 : Hid (Laid w3) := HL2.out.call hb3; clear ha3 hb3)
  refine (C2.out _ _ (by simp) (by simp) (by rw [HD.out]; omega) (by simp) _ HL3.out).mono ?_
  rintro e w4 ⟨rfl, hb4⟩
  have HB4 : Hid (Below w.heap.size w w4) := (HB2.out.trans (HB3.out.mono HB2.out.size)).trans (hb4.mono (Nat.le_trans HB2.out.size HB3.out.size))
  clear hb4 hcv
  have HBOX2 : Hid (_) := box32 F HE.out w4
  go_wp2_with (refine wpList_store_mid rfl 119 _ _ rfl w4.heap.size 0 G2 rfl rfl (by rw [HLA2.out]; exact HBOX2.out.1) (by rw [HLA2.out]; kernel_rfl) (by rw [← HG2.out]; exact all_oneCell_toArray HON2.out) ?_; rw [HLT2.out]; show wpList _ _ _ _ _ ((w4.alloc (.cells z32 119)).setCells w4.heap.size 0 (F.map u8v)); obtain ⟨_, ha5, hb5⟩ := HBOX2.out; clear HBOX2; generalize (w4.alloc (.cells z32 119)).setCells w4.heap.size 0 (F.map u8v) = w5 at *; have hcv := conv_arr8 F 32 32 HE.out w5 w4.heap.size ha5; have HB5 : Hid (Below w4.heap.size w4 w5) := hb5; clear ha5 hb5)
  go_ret
  exact ⟨rfl, HB4.out.trans (HB5.out.mono HB4.out.size)⟩
theorem itoa_nat (n : Nat) : Lib.itoa (n : Int) = Lib.decDigits n := by unfold Lib.itoa; rw [if_neg (by omega)]; simp
theorem itoa_q (n : Nat) (w : World) (E : Env w) (hn : n ≤ 1000000000000000) : Calls Tryz.prog 44 #[.int .i64 n] w fun e w' => e = .returned (str (Lib.decDigits n)) ∧ Below w.heap.size w w' := by
  have := itoa_r n w E hn
  rwa [itoa_nat] at this

set_option maxRecDepth 20000 in
set_option maxHeartbeats 2000000 in
theorem sign_any (secret : Bs) (t : Int) (form : Bs) (w : World) (E : Env w) (L : Laid w) (h3 : form.length ≤ 400000000000000) (h4 : secret.length ≤ 400000000000000) :
    Calls Tryz.prog 40 #[str secret, .int .i64 t, str form] w fun e w' => e = sgEnd (signOf secret t form) ∧ Below w.heap.size w w' := by
  by_cases h0 : t < 0
  · have HX : Hid (signOf secret t form = ([], 5)) := by show _ = _; unfold signOf; rw [if_pos (.inl h0)]
    go_enter Tryz.func40, Tryz.ntmps40
    go_wp2
    go_ret2
    exact ⟨sg_eq HX.out, Below.refl _ _⟩
  · by_cases h1 : 1000000000000 < t
    · have HX : Hid (signOf secret t form = ([], 5)) := by show _ = _; unfold signOf; rw [if_pos (.inr h1)]
      go_enter Tryz.func40, Tryz.ntmps40
      go_wp2
      go_ret2
      exact ⟨sg_eq HX.out, Below.refl _ _⟩
    · have hn : ¬ (t < 0 ∨ 1000000000000 < t) := by omega
      by_cases h2 : secret = []
      · have HX : Hid (signOf secret t form = ([], 1)) := by show _ = _; unfold signOf; rw [if_neg hn, if_pos (.inl h2)]
        have h2' : (secret == []) = true := by simpa using h2
        clear h2 hn
        go_enter Tryz.func40, Tryz.ntmps40
        go_wp2
        go_ret2
        exact ⟨sg_eq HX.out, Below.refl _ _⟩
      · have h2' : (secret == []) = false := by simpa using h2
        by_cases h5 : 40 < secret.length
        · have HX : Hid (signOf secret t form = ([], 1)) := by show _ = _; unfold signOf; rw [if_neg hn, if_pos (.inr h5)]
          have h5' : (40 : Int) < (secret.length : Int) := by omega
          clear h2 hn
          go_enter Tryz.func40, Tryz.ntmps40
          go_wp2
          go_ret2
          exact ⟨sg_eq HX.out, Below.refl _ _⟩
        · have HX : Hid (signOf secret t form = (sigT secret t.toNat form, 0)) := by show _ = _; unfold signOf; rw [if_neg hn, if_neg (by rintro (k | k); exact h2 k; exact h5 k)]
          have h5' : ¬ (40 : Int) < (secret.length : Int) := by omega
          obtain ⟨n, rfl⟩ : ∃ n : Nat, t = n := ⟨t.toNat, by omega⟩
          rw [Int.toNat_natCast] at HX
          clear h2 hn
          have hd := dayT_len n (by omega)
          have hdn := dd_len n
          have hhl : (hashT form).length ≤ 64 := by rw [hashT_len]; omega
          have hdiv : (n : Int).tdiv 86400 = ((n / 86400 : Nat) : Int) := by rw [Int.tdiv_eq_ediv_of_nonneg (by omega)]; omega
          have D1 : Hid (_) := itoa_q (n / 86400)
          rw [show Lib.decDigits (n / 86400) = dayT n from rfl] at D1
          have D2 : Hid (_) := itoa_q n
          have K1 : Hid (_) := key_any secret (dayT n)
          rw [show tagL (tagL ([76, 49] ++ secret) (dayT n)) [108, 97, 114, 100, 101, 114] = keyT secret n from rfl] at K1
          have T3 : Hid (_) := fun k t => mtag_b k t (keyT secret n) (signT secret n form)
          have hk : (keyT secret n).length ≤ 400000000000000 := by unfold keyT; rw [tagL_len]; omega
          have hs : (signT secret n form).length ≤ 400000000000000 := by
            unfold signT; simp only [List.length_append, List.length_cons, List.length_nil]; omega
          have HS : Hid (signT secret n form = [76, 49, 10] ++ Lib.decDigits n ++ [10] ++ dayT n ++ [10] ++ hashT form) := rfl
          have G1 : Hid (_) := digits_any (digest form) (digest_len form)
          rw [show hexL lowF (digest form) = hashT form from rfl] at G1
          have G2 : Hid (_) := digits_any (tagL (keyT secret n) (signT secret n form)) (tagL_len _ _)
          rw [show hexL lowF (tagL (keyT secret n) (signT secret n form)) = sigT secret n form from rfl] at G2
          go_enter Tryz.func40, Tryz.ntmps40
          go_wp2_with fail
          refine (D1.out _ E (by omega)).mono ?_
          rintro e w1 ⟨rfl, b1⟩
          have E1 := E.call b1
          have L1 := L.call b1
          clear E L
          go_wp2_with fail
          refine (D2.out _ E1 (by omega)).mono ?_
          rintro e w2 ⟨rfl, hb2⟩
          have L2 := L1.call hb2
          have b2 := b1.trans (hb2.mono b1.size)
          clear E1 L1 hb2 b1
          go_wp2_with fail
          refine (mhash_any form h3 _ L2).mono ?_
          rintro e w3 ⟨rfl, hb3⟩
          have L3 := L2.call hb3
          have b3 := b2.trans (hb3.mono b2.size)
          clear L2 hb3 b2
          go_wp2_with fail
          refine (G1.out _).mono ?_
          rintro e w4 ⟨rfl, hb4⟩
          have L4 := L3.call hb4
          have b4 := b3.trans (hb4.mono b3.size)
          clear L3 hb4 b3
          go_wp2_with fail
          refine (K1.out _ L4 (by omega) (by omega)).mono ?_
          rintro e w5 ⟨rfl, hb5⟩
          have L5 := L4.call hb5
          have b5 := b4.trans (hb5.mono b4.size)
          clear L4 hb5 b4
          go_wp2_with fail
          refine (T3.out _ _ (by simp) (by rw [HS.out]; simp) hk hs _ L5).mono ?_
          rintro e w6 ⟨rfl, hb6⟩
          have b6 := b5.trans (hb6.mono b5.size)
          clear L5 hb6 b5
          go_wp2_with fail
          refine (G2.out _).mono ?_
          rintro e w7 ⟨rfl, hb7⟩
          have b7 := b6.trans (hb7.mono b6.size)
          go_wp2
          go_ret2
          exact ⟨sg_eq HX.out, b7⟩
end Go.Proofs.YtinnliapfdpfpaaGreatDoor.R
