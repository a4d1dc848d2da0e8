/-
  CANONICAL FORMS AND SIGNATURES: what is called from outside, on both sides.
-/
import Derived.Test.YtinnliapfdpfpaaGreatDoorFForm
import Derived.Test.YtinnliapfdpfpaaGreatDoorFKey
import Derived.Test.YtinnliapfdpfpaaGreatDoorFSize
namespace Go.Proofs.YtinnliapfdpfpaaGreatDoor.R
open Go.RowKit
open Go.Proofs.YtinnliapfdpfpaaGreatDoor.C (ret_bool ret_int)

set_option maxHeartbeats 1000000 in
theorem lsign_any (secret : Bs) (t : Int) (form : Bs) (w : World) (E : Env w) (L : Laid w) (h3 : form.length ≤ 400000000000000) (h4 : secret.length ≤ 400000000000000) :
    Calls Tryz.prog 12 #[str secret, .int .i64 t, str form] w fun e w' => e = sgEnd (signOf secret t form) ∧ Below w.heap.size w w' := by
  have C : Hid (_) := sign_any secret t form
  generalize signOf secret t form = x at *
  go_enter Tryz.func12, Tryz.ntmps12
  go_wp2_with fail
  refine (C.out _ E L h3 h4).mono ?_
  rintro e w1 ⟨rfl, hb1⟩
  unfold sgEnd
  go_wp2
  go_ret2
  exact ⟨rfl, hb1⟩

/-- What the canonical form of a text answers. -/
def cnOf (s list : Bs) : Bs × Int :=
  if (parseOf s).1 = 0 then match canonOf (parseOf s).2.method (parseOf s).2.path (parseOf s).2.query (parseOf s).2.headers (parseOf s).2.body list with
    | none => ([], 2)
    | some t => (t, 0)
  else ([], (parseOf s).1)
theorem cn_err {s list : Bs} (h : (parseOf s).1 ≠ 0) : cnOf s list = ([], (parseOf s).1) := by unfold cnOf; rw [if_neg h]
theorem cn_none {s list : Bs} (h : (parseOf s).1 = 0) (k : canonOf (parseOf s).2.method (parseOf s).2.path (parseOf s).2.query (parseOf s).2.headers (parseOf s).2.body list = none) : cnOf s list = ([], 2) := by unfold cnOf; rw [if_pos h, k]
theorem cn_some {s list t : Bs} (h : (parseOf s).1 = 0) (k : canonOf (parseOf s).2.method (parseOf s).2.path (parseOf s).2.query (parseOf s).2.headers (parseOf s).2.body list = some t) : cnOf s list = (t, 0) := by unfold cnOf; rw [if_pos h, k]

set_option maxRecDepth 20000 in
set_option maxHeartbeats 2000000 in
theorem lcanon_any (s list : Bs) (w : World) (E : Env w) (L : Laid w) (h1 : s.length ≤ 1000000000000) (h2 : list.length ≤ 2000000) :
    Calls Tryz.prog 10 #[str s, str list] w fun e w' => e = sgEnd (cnOf s list) ∧ Below w.heap.size w w' := by
  have F := parse_fits s
  have C : Hid (_) := parse_any s
  have N1 := @cn_err s list
  have N2 := @cn_none s list
  have N3 := @cn_some s list
  generalize cnOf s list = X at *
  generalize parseOf s = x at *
  obtain ⟨n, r⟩ := x
  simp only at N1 N2 N3 F
  go_enter Tryz.func10, Tryz.ntmps10
  go_wp2_with fail
  refine (C.out _ E h1).mono ?_
  rintro e w1 ⟨hb1, vq, vh, M, rfl, hq, hM, hh, _⟩
  simp only at hq hh
  obtain ⟨qa, qn, qc, rfl, _⟩ := hq.any
  obtain ⟨ha, hm, hc, rfl, _⟩ := hh.any
  have E1 := E.call hb1
  have L1 := L.call hb1
  by_cases hn : n = 0
  · subst hn
    have hW : Below w1.heap.size w1 (w1.alloc (.cells #[str r.method, str r.path, .slice qa qn qc, .slice ha hm hc, str r.body] 80)) := (Below.refl _ _).alloc (Nat.le_refl _) _
    have hb2 := hb1.trans (hW.mono hb1.size)
    have E2 := E1.call hW
    have L2 := L1.call hW
    have hq2 := (hq.hold).call hW
    have hh2 := (hh.hold).call hW
    clear E1 L1 hW hq hh E L hb1
    go_wp2_with fail
    refine (canon_any r.method r.path r.query r.headers (.slice qa qn qc) (.slice ha hm hc) r.body list _ hq2 hh2 E2 L2 F.m F.p F.q F.qs F.h F.y (by omega) F.hs).mono ?_
    rintro e w3 ⟨rfl, hb3⟩
    have hb4 := hb2.trans (hb3.mono hb2.size)
    cases hco : canonOf r.method r.path r.query r.headers r.body list with
    | none =>
      have HX : Hid (X = ([], 2)) := N2 (by trivial) hco
      simp only [cEnd]
      go_wp2
      go_ret2
      exact ⟨sg_eq HX.out, hb4⟩
    | some t =>
      have HX : Hid (X = (t, 0)) := N3 (by trivial) hco
      simp only [cEnd]
      go_wp2
      go_ret2
      exact ⟨sg_eq HX.out, hb4⟩
  · have HX : Hid (X = ([], n)) := N1 hn
    have hn' : (n == 0) = false := by simpa using hn
    have hb2 := hb1.trans (((Below.refl _ _).alloc (Nat.le_refl _) (.cells #[str r.method, str r.path, .slice qa qn qc, .slice ha hm hc, str r.body] 80)).mono hb1.size)
    clear N1 N2 N3 C F
    go_wp2
    go_ret2
    exact ⟨sg_eq HX.out, hb2⟩

set_option maxRecDepth 20000 in
set_option maxHeartbeats 2000000 in
theorem rcanon_any (s list : Bs) (w : World) (h1 : s.length ≤ 1000000000000) (h2 : list.length ≤ 2000000) :
    Calls Tryz.prog 11 #[str s, str list] w fun e w' => e = sgEnd (cnOf s list) ∧ Below w.heap.size w w' := by
  have F := parse_fits s
  have NE := parse_ne s
  have C : Hid (_) := rparse_any s
  have N1 := @cn_err s list
  have N2 := @cn_none s list
  have N3 := @cn_some s list
  generalize cnOf s list = X at *
  generalize parseOf s = x at *
  obtain ⟨n, r⟩ := x
  simp only at N1 N2 N3 F NE
  go_enter Tryz.func11, Tryz.ntmps11
  go_wp2_with fail
  refine (C.out _ h1).mono ?_
  rintro e w1 ⟨hb1, vq, vh, rfl, hq, hh⟩
  simp only at hq hh
  obtain ⟨qa, qn, qc, rfl, _⟩ := hq.any
  obtain ⟨ha, hm, hc, rfl, _⟩ := hh.any
  by_cases hn : n = 0
  · subst hn
    have hW : Below w1.heap.size w1 (w1.alloc (.cells #[str r.method, str r.path, .slice qa qn qc, .slice ha hm hc, str r.body] 80)) := (Below.refl _ _).alloc (Nat.le_refl _) _
    have hb2 := hb1.trans (hW.mono hb1.size)
    have hq2 := (hq.hold).call hW
    have hh2 := (hh.hold).call hW
    clear hW hq hh hb1
    go_wp2_with fail
    refine (rform_any r.method r.path r.query r.headers (.slice qa qn qc) (.slice ha hm hc) r.body list _ hq2 hh2 NE F.m F.p F.q F.qs F.h F.y h2 F.hs).mono ?_
    rintro e w3 ⟨rfl, hb3⟩
    have hb4 := hb2.trans (hb3.mono hb2.size)
    cases hco : canonOf r.method r.path r.query r.headers r.body list with
    | none =>
      have HX : Hid (X = ([], 2)) := N2 (by trivial) hco
      simp only [fEnd]
      go_wp2
      go_ret2
      exact ⟨sg_eq HX.out, hb4⟩
    | some t =>
      have HX : Hid (X = (t, 0)) := N3 (by trivial) hco
      simp only [fEnd]
      go_wp2
      go_ret2
      exact ⟨sg_eq HX.out, hb4⟩
  · have HX : Hid (X = ([], n)) := N1 hn
    have hn' : (n == 0) = false := by simpa using hn
    have hb2 := hb1.trans (((Below.refl _ _).alloc (Nat.le_refl _) (.cells #[str r.method, str r.path, .slice qa qn qc, .slice ha hm hc, str r.body] 80)).mono hb1.size)
    clear N1 N2 N3 C F NE
    go_wp2
    go_ret2
    exact ⟨sg_eq HX.out, hb2⟩
end Go.Proofs.YtinnliapfdpfpaaGreatDoor.R
