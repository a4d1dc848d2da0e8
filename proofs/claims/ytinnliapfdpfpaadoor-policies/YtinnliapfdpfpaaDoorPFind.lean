/-
  POLICIES OF JSON VALUES: members by their names; effects; names, actions; lists of texts.
-/
import Derived.Test.YtinnliapfdpfpaaDoorPSmall
namespace Go.Proofs.YtinnliapfdpfpaaDoor.P
open Go.RowKit
open Go.Proofs.YtinnliapfdpfpaaDoor.C (ret_bool ret_int ret_str)

theorem mcells_at : ∀ (l : List (List UInt8 × Value)) (k : Nat) (h : k < l.length), (mcells l)[k * 2]? = some (str l[k].1) ∧ (mcells l)[k * 2 + 1]? = some l[k].2
  | p :: l, 0, _ => ⟨rfl, rfl⟩
  | p :: l, k + 1, h => by
    have := mcells_at l k (by simpa using h)
    rw [show (k + 1) * 2 = k * 2 + 1 + 1 by omega]
    exact this
theorem findM_drop {l : List (List UInt8 × J)} {k : Nat} (h : k < l.length) (n : List UInt8) : findM (l.drop k) n = if l[k].1 = n then some l[k].2 else findM (l.drop (k + 1)) n := by
  rw [List.drop_eq_getElem_cons h]; rfl
def findPost (k : Nat) (w : World) (o : Option J) (e : Ending) (w' : World) : Prop :=
  Below w.heap.size w w' ∧ match o with
  | none => e = .panicked noP
  | some j => ∃ v, e = .returned v ∧ repJ k w' (inW w') v j
theorem findPost_ok {k : Nat} {w w' : World} {o : Option J} {j : J} {v : Value} (h : o = some j) (hb : Below w.heap.size w w') (hv : repJ k w' (inW w') v j) : findPost k w o (.returned v) w' := by subst h; exact ⟨hb, v, rfl, hv⟩
theorem findPost_no {k : Nat} {w w' : World} {o : Option J} (h : o = none) (hb : Below w.heap.size w w') : findPost k w o (.panicked noP) w' := by subst h; exact ⟨hb, rfl⟩
theorem membs.below {k : Nat} {w w' : World} {sl : Value} {l : List (List UInt8 × J)} (h : membs k w sl l) (b : Below w.heap.size w w') : membs k w' sl l := by
  obtain ⟨us, h1, h2⟩ := h
  exact ⟨us, (Kept.of_below b).row h1 (fun g hg e => by have := (World.ownsRow.lt h1 g hg).2; omega), all2_mono (fun _ _ hr => ⟨hr.1, RJ_below hr.2 b⟩) h2⟩
theorem elems.below {k : Nat} {w w' : World} {sl : Value} {l : List J} (h : elems k w sl l) (b : Below w.heap.size w w') : elems k w' sl l := by
  obtain ⟨us, h1, h2⟩ := h
  exact ⟨us, (Kept.of_below b).row h1 (fun g hg e => by have := (World.ownsRow.lt h1 g hg).2; omega), all2_mono (fun _ _ hr => RJ_below hr b) h2⟩
theorem RJ_alloc {k : Nat} {w : World} {v : Value} {j : J} (h : repJ k w (inW w) v j) (o : Obj) : repJ k (w.alloc o) (inW (w.alloc o)) v j := RJ_below h ((Below.refl _ _).alloc (Nat.le_refl _) _)
theorem below_trans {w w1 w2 : World} (h : Below w.heap.size w w1) (k : Below w1.heap.size w1 w2) : Below w.heap.size w w2 := h.trans (k.mono h.size)

set_option maxHeartbeats 1000000 in
theorem find_any (k : Nat) (sl : Value) (l : List (List UInt8 × J)) (nm : List UInt8) (w : World) (hm : membs k w sl l) (hl : l.length ≤ 1000000) :
    Calls Tryd.prog 82 #[sl, str nm] w (findPost k w (findM l nm)) := by
  have HM : Hid (membs k w sl l) := hm
  obtain ⟨us, hrow, hall⟩ := hm
  have hlen := all2_len hall
  obtain ⟨a, cap, rfl, hcap, hcells⟩ := row_view hrow
  have HC : Hid (∀ j u, (mcells us)[j]? = some u → ∃ g, a = some ⟨g, 0, none⟩ ∧ w.cell? ⟨g, j, none⟩ = some u ∧ g < w.heap.size) := hcells
  have HA : Hid (all2 (fun (u : List UInt8 × Value) (j : List UInt8 × J) => u.1 = j.1 ∧ repJ k w (inW w) u.2 j.2) us l) := hall
  clear hcells hall hrow
  go_enter Tryd.func82, Tryd.ntmps82
  go_wp2
  go_loopw [9] (fun i wr => ∃ k : Nat, k ≤ l.length ∧ i = .int .i64 k ∧ findM l nm = findM (l.drop k) nm ∧ Below w.heap.size w wr) (fun i _ => l.length - (intOf i).toNat)
  case atStart => exact ⟨0, Nat.zero_le _, rfl, by simp, Below.refl _ _⟩
  case round =>
    obtain ⟨i, hk, rfl, hno, hb⟩ := hrel
    have HN : Hid (findM l nm = findM (l.drop i) nm) := hno
    clear hno
    have hsz := hb.size
    by_cases hlt : i < l.length
    · have hu : i < us.length := by omega
      obtain ⟨m1, m2⟩ := mcells_at us i hu
      obtain ⟨g, rfl, c1, hg⟩ := HC.out _ _ m1
      obtain ⟨g', e', c2, _⟩ := HC.out _ _ m2
      obtain rfl : g = g' := by simpa using e'
      clear e' m1 m2
      obtain ⟨hnm, hj⟩ := all2_get HA.out i hu hlt
      have HJ : Hid (repJ k wr (inW wr) us[i].2 l[i].2) := RJ_below hj hb
      obtain ⟨vt, vx, hv⟩ := repJ.iface k hj
      rw [hv] at c2 HJ
      rw [hnm] at c1
      clear hj hv hnm
      replace c1 := (hb.cell (p := ⟨g, i * 2, none⟩) hg).trans c1
      replace c2 := (hb.cell (p := ⟨g, i * 2 + 1, none⟩) hg).trans c2
      have HS : Hid (findM l nm = if l[i].1 = nm then some l[i].2 else findM (l.drop (i + 1)) nm) := by show _ = _; rw [HN.out, findM_drop hlt]
      clear HN
      go_wp2
      · rename_i he
        go_ret
        exact findPost_ok (by rw [HS.out, if_pos (eq_of_beq he)]) (hb.alloc hsz _) (RJ_alloc HJ.out _)
      · rename_i he
        go_roundw
        case rel => exact ⟨i + 1, by omega, by go_num, by rw [HS.out, if_neg (by simpa using he)], hb.alloc hsz _⟩
        case measure => simp [intOf]; omega
    · have HT : Hid (findM l nm = none) := by show _ = _; rw [HN.out, List.drop_eq_nil_of_le (by omega)]; rfl
      go_wp2
      exact ⟨rfl, findPost_no HT.out hb⟩
theorem textOf_some (k : Nat) (v : Value) (j : J) (s : List UInt8) (w : World) (h : repJ k w (inW w) v j) (hs : strJ j = some s) :
    Calls Tryd.prog 143 #[v] w fun e w' => e = .returned (str s) ∧ w = w' := by
  have := textOf_any k v j w h
  rw [hs] at this; exact this
theorem textOf_none (k : Nat) (v : Value) (j : J) (w : World) (h : repJ k w (inW w) v j) (hs : strJ j = none) :
    Calls Tryd.prog 143 #[v] w fun e w' => e = .panicked noP ∧ w = w' := by
  have := textOf_any k v j w h
  rw [hs] at this; exact this
def effEnd : Option Bool → Ending
  | some d => .returned (.int .i64 (if d then 2 else 1))
  | none => .panicked noP
theorem effE {o : Option Bool} {d : Bool} (h : o = some d) : Ending.returned (.int .i64 (if d then 2 else 1)) = effEnd o := by rw [h]; rfl
theorem effN {o : Option Bool} (h : o = none) : Ending.panicked noP = effEnd o := by rw [h]; rfl
set_option maxHeartbeats 1000000 in
theorem readEffect_any (k : Nat) (v : Value) (j : J) (w : World) (h : repJ k w (inW w) v j) :
    Calls Tryd.prog 116 #[v] w fun e w' => e = effEnd (effJ j) ∧ w = w' := by
  cases hs : strJ j with
  | none =>
    have HN : Hid (effJ j = none) := by show _ = _; unfold effJ; rw [hs]
    go_enter Tryd.func116, Tryd.ntmps116
    go_wp2_with (go_at_call 143; refine (textOf_none k v j _ h hs).mono ?_; rintro e w' ⟨rfl, rfl⟩)
    exact ⟨rfl, effN HN.out, rfl⟩
  | some s =>
    have HE : Hid (effJ j = if s = sAllow then some false else if s = sDeny then some true else none) := by show _ = _; unfold effJ; rw [hs]
    by_cases hA : s = sAllow
    · have HR : Hid (effJ j = some false) := by show _ = _; rw [HE.out, if_pos hA]
      subst hA
      unfold sAllow at *
      go_enter Tryd.func116, Tryd.ntmps116
      go_wp2_with (go_at_call 143; refine (textOf_some k v j _ _ h hs).mono ?_; rintro e w' ⟨rfl, rfl⟩)
      go_ret
      exact ⟨effE (d := false) HR.out, rfl⟩
    · by_cases hD : s = sDeny
      · have HR : Hid (effJ j = some true) := by show _ = _; rw [HE.out, if_neg hA, if_pos hD]
        subst hD
        unfold sDeny at *
        go_enter Tryd.func116, Tryd.ntmps116
        go_wp2_with (go_at_call 143; refine (textOf_some k v j _ _ h hs).mono ?_; rintro e w' ⟨rfl, rfl⟩)
        go_ret
        exact ⟨effE (d := true) HR.out, rfl⟩
      · have HR : Hid (effJ j = none) := by show _ = _; rw [HE.out, if_neg hA, if_neg hD]
        have t1 : (s == [97, 108, 108, 111, 119]) = false := by simpa [sAllow] using hA
        have t2 : (s == [100, 101, 110, 121]) = false := by simpa [sDeny] using hD
        clear hA hD HE
        go_enter Tryd.func116, Tryd.ntmps116
        go_wp2_with (go_at_call 143; refine (textOf_some k v j _ _ h hs).mono ?_; rintro e w' ⟨rfl, rfl⟩)
        exact ⟨rfl, effN HR.out, rfl⟩

/-! Names, actions. -/
theorem all_take_succ (f : UInt8 → Bool) (l : List UInt8) (k : Nat) (h : k < l.length) : (l.take (k + 1)).all f = ((l.take k).all f && f l[k]) := by
  have e : l.take (k + 1) = l.take k ++ [l[k]] := by rw [List.take_add_one, List.getElem?_eq_getElem h]; rfl
  rw [e, List.all_append]; simp only [List.all_cons, List.all_nil, Bool.and_true]
theorem all_false {f : UInt8 → Bool} {l : List UInt8} {k : Nat} (h : k < l.length) (hf : f l[k] = false) : l.all f = false := by
  rw [List.all_eq_false]; exact ⟨l[k], List.getElem_mem h, by simp [hf]⟩
theorem str_at (l : List UInt8) (k : Nat) (_h : k < l.length) (h' : k < (⟨l.toArray⟩ : ByteArray).size) : (⟨l.toArray⟩ : ByteArray)[k]'h' = l[k] := rfl
set_option maxHeartbeats 1000000 in
theorem isLD_any (b : UInt8) (w : World) :
    Calls Tryd.prog 163 #[.int .u8 (b.toNat : Int)] w fun e w' => e = .returned (.bool (lcB b)) ∧ w = w' := by
  have hxl := b.toNat_lt
  rcases (show (97 ≤ b.toNat ∧ b.toNat ≤ 122) ∨ (48 ≤ b.toNat ∧ b.toNat ≤ 57) ∨ b.toNat < 48 ∨ (57 < b.toNat ∧ b.toNat < 97) ∨ 122 < b.toNat by omega) with h | h | h | h | h
  · have HY : Hid (lcB b = true) := by show _ = _; simp [lcB]; omega
    have p1 : decide (97 ≤ (b.toNat : Int)) = true := by simp; omega
    have p2 : decide ((b.toNat : Int) ≤ 122) = true := by simp; omega
    go_enter Tryd.func163, Tryd.ntmps163
    go_wp2
    go_ret
    exact ⟨ret_bool HY.out.symm, rfl⟩
  · have HY : Hid (lcB b = true) := by show _ = _; simp [lcB]; omega
    have p1 : decide (97 ≤ (b.toNat : Int)) = false := by simp; omega
    have p3 : decide (48 ≤ (b.toNat : Int)) = true := by simp; omega
    have p4 : decide ((b.toNat : Int) ≤ 57) = true := by simp; omega
    go_enter Tryd.func163, Tryd.ntmps163
    go_wp2
    go_ret
    exact ⟨ret_bool HY.out.symm, rfl⟩
  · have HY : Hid (lcB b = false) := by show _ = _; simp [lcB]; omega
    have p1 : decide (97 ≤ (b.toNat : Int)) = false := by simp; omega
    have p3 : decide (48 ≤ (b.toNat : Int)) = false := by simp; omega
    go_enter Tryd.func163, Tryd.ntmps163
    go_wp2
    go_ret
    exact ⟨ret_bool HY.out.symm, rfl⟩
  · have HY : Hid (lcB b = false) := by show _ = _; simp [lcB]; omega
    have p1 : decide (97 ≤ (b.toNat : Int)) = false := by simp; omega
    have p3 : decide (48 ≤ (b.toNat : Int)) = true := by simp; omega
    have p4 : decide ((b.toNat : Int) ≤ 57) = false := by simp; omega
    go_enter Tryd.func163, Tryd.ntmps163
    go_wp2
    go_ret
    exact ⟨ret_bool HY.out.symm, rfl⟩
  · have HY : Hid (lcB b = false) := by show _ = _; simp [lcB]; omega
    have p1 : decide (97 ≤ (b.toNat : Int)) = true := by simp; omega
    have p2 : decide ((b.toNat : Int) ≤ 122) = false := by simp; omega
    have p3 : decide (48 ≤ (b.toNat : Int)) = true := by simp; omega
    have p4 : decide ((b.toNat : Int) ≤ 57) = false := by simp; omega
    go_enter Tryd.func163, Tryd.ntmps163
    go_wp2
    go_ret
    exact ⟨ret_bool HY.out.symm, rfl⟩
set_option maxHeartbeats 1000000 in
theorem isLong_any (l : List UInt8) (a b : Nat) (w : World) (_hl : l.length ≤ 1000000) :
    Calls Tryd.prog 161 #[str l, .int .i64 (a : Int), .int .i64 (b : Int)] w fun e w' => e = .returned (.bool (decide (a ≤ l.length ∧ l.length ≤ b))) ∧ w = w' := by
  by_cases h : a ≤ l.length
  · have p1 : decide ((a : Int) ≤ (l.length : Int)) = true := by simp; omega
    go_enter Tryd.func161, Tryd.ntmps161
    go_wp2
    go_ret
    refine ⟨ret_bool ?_, rfl⟩
    rw [decide_eq_decide]; omega
  · have p1 : decide ((a : Int) ≤ (l.length : Int)) = false := by simp; omega
    go_enter Tryd.func161, Tryd.ntmps161
    go_wp2
    go_ret
    refine ⟨ret_bool ?_, rfl⟩
    symm; rw [decide_eq_false_iff_not]; omega
set_option maxHeartbeats 1000000 in
theorem isOf_any (f : UInt8 → Bool) (g : Nat) (eg : ∀ args w, (callFunc g args).run Tryd.prog w = .ok (.enter g args) w)
    (F : ∀ (b : UInt8) w, Calls Tryd.prog g #[.int .u8 (b.toNat : Int)] w fun e w' => e = .returned (.bool (f b)) ∧ w = w')
    (l : List UInt8) (w : World) (hl : l.length ≤ 1000000) :
    Calls Tryd.prog 162 #[str l, .func (.func g) #[] #[]] w fun e w' => e = .returned (.bool (l.all f)) ∧ w = w' := by
  go_enter Tryd.func162, Tryd.ntmps162
  go_wp2
  go_loop [8] (fun i => ∃ k : Nat, k ≤ l.length ∧ i = .int .i64 k ∧ (l.take k).all f = true) (fun i => l.length - (intOf i).toNat)
  case atStart => exact ⟨0, Nat.zero_le _, rfl, by simp⟩
  case round =>
    obtain ⟨k, hk, rfl, hno⟩ := hrel
    have HN : Hid ((l.take k).all f = true) := hno
    clear hno
    by_cases hlt : k < l.length
    · have hs : k < (⟨l.toArray⟩ : ByteArray).size := hlt
      have FB : Hid (_) := F l[k]
      cases hb : f l[k] with
      | true =>
        have HY : Hid ((l.take (k + 1)).all f = true) := by show _ = _; rw [all_take_succ _ _ _ hlt, HN.out, hb]; rfl
        clear HN
        go_wp2_with (go_at_fn g; refine (FB.out _).mono ?_; rw [hb]; rintro e w' ⟨rfl, rfl⟩)
        go_round
        case rel => exact ⟨k + 1, by omega, by go_num, HY.out⟩
        case measure => simp [intOf]; omega
      | false =>
        have HY : Hid (l.all f = false) := all_false hlt hb
        clear HN
        go_wp2_with (go_at_fn g; refine (FB.out _).mono ?_; rw [hb]; rintro e w' ⟨rfl, rfl⟩)
        go_ret
        exact ⟨ret_bool HY.out.symm, rfl⟩
    · have HT : Hid (l.all f = true) := by
        show _ = _
        have := HN.out
        rwa [List.take_of_length_le (by omega)] at this
      clear HN
      go_wp2
      go_ret
      exact ⟨ret_bool HT.out.symm, rfl⟩
set_option maxHeartbeats 1000000 in
theorem isUser_any (l : List UInt8) (w : World) (hl : l.length ≤ 1000000) :
    Calls Tryd.prog 144 #[str l] w fun e w' => e = .returned (.bool (nameP l)) ∧ w = w' := by
  have L : Hid (_) := fun w => isLong_any l 1 12 w hl
  have O : Hid (_) := fun w => isOf_any lcB 163 (enters_of Tryd.func163 (by kernel_rfl) rfl) isLD_any l w hl
  by_cases h : 1 ≤ l.length ∧ l.length ≤ 12
  · have HF : Hid (nameP l = l.all lcB) := by show _ = _; unfold nameP; rw [decide_eq_true h]; simp
    have HD : Hid (decide (1 ≤ l.length ∧ l.length ≤ 12) = true) := decide_eq_true h
    clear h
    go_enter Tryd.func144, Tryd.ntmps144
    go_wp2_with (first | (go_at_call 161; refine (L.out _).mono ?_; rw [HD.out]; rintro e w' ⟨rfl, rfl⟩) | (go_at_call 162; refine (O.out _).mono ?_; rintro e w' ⟨rfl, rfl⟩))
    go_ret
    exact ⟨ret_bool HF.out.symm, rfl⟩
  · have HF : Hid (nameP l = false) := by show _ = _; unfold nameP; rw [decide_eq_false h]; simp
    have HD : Hid (decide (1 ≤ l.length ∧ l.length ≤ 12) = false) := decide_eq_false h
    clear h
    go_enter Tryd.func144, Tryd.ntmps144
    go_wp2_with (go_at_call 161; refine (L.out _).mono ?_; rw [HD.out]; rintro e w' ⟨rfl, rfl⟩)
    go_ret
    exact ⟨ret_bool HF.out.symm, rfl⟩
set_option maxHeartbeats 1000000 in
theorem isWho_any (l : List UInt8) (w : World) (hl : l.length ≤ 1000000) :
    Calls Tryd.prog 118 #[str l] w fun e w' => e = .returned (.bool (whoP l)) ∧ w = w' := by
  by_cases hA : l = sAll
  · have HR : Hid (whoP l = true) := by show _ = _; rw [hA]; rfl
    subst hA
    unfold sAll at *
    go_enter Tryd.func118, Tryd.ntmps118
    go_wp2
    go_ret
    exact ⟨ret_bool HR.out.symm, rfl⟩
  · have HR : Hid (whoP l = nameP l) := by show _ = _; unfold whoP; rw [show (l == sAll) = false by simpa using hA]; rfl
    have t1 : (l == [42]) = false := by simpa [sAll] using hA
    clear hA
    go_enter Tryd.func118, Tryd.ntmps118
    go_wp2_with (go_at_call 144; refine (isUser_any l _ hl).mono ?_; rintro e w' ⟨rfl, rfl⟩)
    go_ret
    exact ⟨ret_bool HR.out.symm, rfl⟩
set_option maxHeartbeats 1000000 in
theorem isPattern_any (l : List UInt8) (w : World) :
    Calls Tryd.prog 120 #[str l] w fun e w' => e = .returned (.bool true) ∧ w = w' := by
  go_enter Tryd.func120, Tryd.ntmps120
  go_wp2
  go_ret
  exact ⟨rfl, rfl⟩
set_option maxHeartbeats 1000000 in
theorem isAction_any (l : List UInt8) (w : World) :
    Calls Tryd.prog 119 #[str l] w fun e w' => e = .returned (.bool (actP l)) ∧ w = w' := by
  have HR : Hid (actP l = (l == [103, 101, 116] || l == [112, 117, 116] || l == [100, 101, 108, 101, 116, 101] || l == [108, 105, 115, 116] || l == [112, 111, 108, 105, 99, 121] || l == [42])) := by
    show _ = _
    unfold actP acts sGet sPut sDelete sList sPolicy sAll
    simp only [List.contains_cons, List.contains_nil, Bool.or_false, Bool.or_assoc]
  go_enter Tryd.func119, Tryd.ntmps119
  go_wp2
  all_goals go_ret
  all_goals refine ⟨ret_bool ?_, rfl⟩
  all_goals rw [HR.out]
  all_goals simp_all
end Go.Proofs.YtinnliapfdpfpaaDoor.P
