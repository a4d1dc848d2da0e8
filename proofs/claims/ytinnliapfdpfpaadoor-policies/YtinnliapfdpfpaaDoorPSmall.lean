/-
  POLICIES OF JSON VALUES: what the program asks of a value.
-/
import Derived.Test.YtinnliapfdpfpaaDoorPText
import Derived.Test.YtinnliapfdpfpaaDoorPRule
namespace Go.Proofs.YtinnliapfdpfpaaDoor.P
open Go.RowKit
open Go.Proofs.YtinnliapfdpfpaaDoor.C (ret_bool ret_int ret_str)

def noP : List PanicEntry := [{ v := .iface 162 (.agg #[]), recovered := false }]
set_option maxHeartbeats 400000 in
theorem rneed_ok (w : World) : Calls Tryd.prog 84 #[.bool true] w fun e w' => e = .returned (.tuple #[]) ∧ w = w' := by
  go_enter Tryd.func84, Tryd.ntmps84
  go_wp2
  go_end0
  exact ⟨rfl, rfl⟩
set_option maxHeartbeats 400000 in
theorem rneed_no (w : World) : Calls Tryd.prog 84 #[.bool false] w fun e w' => e = .panicked noP ∧ w = w' := by
  go_enter Tryd.func84, Tryd.ntmps84
  go_wp2
  exact ⟨rfl, rfl, rfl⟩

/-- A JSON value that lies in w. -/
def inW (w : World) : Nat → Prop := fun g => g < w.heap.size
theorem RJ_below {k : Nat} {w w' : World} {v : Value} {j : J} (h : repJ k w (inW w) v j) (b : Below w.heap.size w w') : repJ k w' (inW w') v j :=
  repJ.mono k (repJ.kept k h (Kept.of_below b) (fun g hg e => by unfold inW at hg; omega)) (fun g hg => by have := b.size; unfold inW at *; omega)
def elems (k : Nat) (w : World) (sl : Value) (l : List J) : Prop := ∃ us, w.ownsRow 0 94 1 sl l.length us ∧ all2 (repJ k w (inW w)) us l
def membs (k : Nat) (w : World) (sl : Value) (l : List (List UInt8 × J)) : Prop :=
  ∃ us, w.ownsRow 0 164 2 sl l.length (mcells us) ∧ all2 (fun (u : List UInt8 × Value) (j : List UInt8 × J) => u.1 = j.1 ∧ repJ k w (inW w) u.2 j.2) us l
theorem arr_elems {k : Nat} {w : World} {v : Value} {l : List J} (h : repJ k w (inW w) v (.arr l)) : ∃ sl, v = .iface 134 sl ∧ elems (k - 1) w sl l := by
  match k, h with
  | k + 1, ⟨sl, us, h1, h2, h3, h4⟩ => exact ⟨sl, h1, us, h2, all2_mono (fun _ _ hr => repJ.mono k hr (fun g hg => hg.1)) h4⟩
theorem obj_membs {k : Nat} {w : World} {v : Value} {l : List (List UInt8 × J)} (h : repJ k w (inW w) v (.obj l)) : ∃ sl, v = .iface 138 sl ∧ membs (k - 1) w sl l := by
  match k, h with
  | k + 1, ⟨sl, us, h1, h2, h3, h4⟩ => exact ⟨sl, h1, us, h2, all2_mono (fun _ _ hr => ⟨hr.1, repJ.mono k hr.2 (fun g hg => hg.1)⟩) h4⟩
theorem str_val {k : Nat} {w : World} {v : Value} {s : List UInt8} (h : repJ k w (inW w) v (.str s)) : v = .iface 177 (str s) ∧ s.length ≤ 4000 := by
  match k, h with
  | _ + 1, h => exact h
theorem bool_val {k : Nat} {w : World} {v : Value} {b : Bool} (h : repJ k w (inW w) v (.bool b)) : v = .iface 178 (.bool b) := by
  match k, h with
  | _ + 1, h => exact h
theorem null_val {k : Nat} {w : World} {v : Value} (h : repJ k w (inW w) v .null) : v = .iface 179 (.agg #[]) := by
  match k, h with
  | _ + 1, h => exact h
/-- A row as the walk reads it. -/
theorem row_view {w : World} {B : Nat} {e : TypeId} {size : Nat} {v : Value} {n : Nat} {xs : List Value} (h : w.ownsRow B e size v n xs) :
    ∃ a cap, v = .slice a n cap ∧ n ≤ cap ∧ ∀ j u, xs[j]? = some u → ∃ g, a = some ⟨g, 0, none⟩ ∧ w.cell? ⟨g, j, none⟩ = some u ∧ g < w.heap.size := by
  have hl := h.1
  rcases id h.2 with ⟨rfl, hn⟩ | ⟨g, cap, cur, rfl, hb, hg, h1, _⟩
  · subst hn
    refine ⟨none, 0, rfl, Nat.le_refl _, fun j u hu => ?_⟩
    have : xs = [] := List.eq_nil_of_length_eq_zero (by simpa using hl)
    subst this; simp at hu
  · refine ⟨some ⟨g, 0, none⟩, cap, rfl, h1, fun j u hu => ⟨g, rfl, ?_, (Array.getElem?_eq_some_iff.1 hg).1⟩⟩
    have := World.ownsRow.cells h (g := g) rfl j u hu
    simpa [Addr.add_lit] using this

theorem asS_yes (W : World) (v : Value) : (Instr.typeAssert (.iface 177 v) 94 177 true).run Tryd.prog W = .ok (.tuple #[v, .bool true]) W := by kernel_rfl
theorem asS_no (W : World) (u : TypeId) (v : Value) (h : u ≠ 177) : (Instr.typeAssert (.iface u v) 94 177 true).run Tryd.prog W = .ok (.tuple #[.string ⟨#[]⟩, .bool false]) W := by
  have e : (Instr.typeAssert (.iface u v) 94 177 true).run Tryd.prog W = (if u = 177 then (pure (Value.tuple #[v, .bool true]) : Sem Value) else (do pure (Value.tuple #[← zeroValue 177, .bool false]))).run Tryd.prog W := by kernel_rfl
  rw [e, if_neg h]
  exact (show (do pure (Value.tuple #[← zeroValue 177, .bool false]) : Sem Value).run Tryd.prog W = .ok (.tuple #[.string ⟨#[]⟩, .bool false]) W by kernel_rfl)
theorem asAr_yes (W : World) (v : Value) : (Instr.typeAssert (.iface 134 v) 94 134 true).run Tryd.prog W = .ok (.tuple #[v, .bool true]) W := by kernel_rfl
theorem asAr_no (W : World) (u : TypeId) (v : Value) (h : u ≠ 134) : (Instr.typeAssert (.iface u v) 94 134 true).run Tryd.prog W = .ok (.tuple #[.slice none 0 0, .bool false]) W := by
  have e : (Instr.typeAssert (.iface u v) 94 134 true).run Tryd.prog W = (if u = 134 then (pure (Value.tuple #[v, .bool true]) : Sem Value) else (do pure (Value.tuple #[← zeroValue 134, .bool false]))).run Tryd.prog W := by kernel_rfl
  rw [e, if_neg h]
  exact (show (do pure (Value.tuple #[← zeroValue 134, .bool false]) : Sem Value).run Tryd.prog W = .ok (.tuple #[.slice none 0 0, .bool false]) W by kernel_rfl)
theorem asOb_yes (W : World) (v : Value) : (Instr.typeAssert (.iface 138 v) 94 138 true).run Tryd.prog W = .ok (.tuple #[v, .bool true]) W := by kernel_rfl
theorem asOb_no (W : World) (u : TypeId) (v : Value) (h : u ≠ 138) : (Instr.typeAssert (.iface u v) 94 138 true).run Tryd.prog W = .ok (.tuple #[.slice none 0 0, .bool false]) W := by
  have e : (Instr.typeAssert (.iface u v) 94 138 true).run Tryd.prog W = (if u = 138 then (pure (Value.tuple #[v, .bool true]) : Sem Value) else (do pure (Value.tuple #[← zeroValue 138, .bool false]))).run Tryd.prog W := by kernel_rfl
  rw [e, if_neg h]
  exact (show (do pure (Value.tuple #[← zeroValue 138, .bool false]) : Sem Value).run Tryd.prog W = .ok (.tuple #[.slice none 0 0, .bool false]) W by kernel_rfl)
def textEnd : Option (List UInt8) → Ending
  | some s => .returned (str s)
  | none => .panicked noP
set_option maxHeartbeats 400000 in
theorem textOf_any (k : Nat) (v : Value) (j : J) (w : World) (h : repJ k w (inW w) v j) :
    Calls Tryd.prog 143 #[v] w fun e w' => e = textEnd (strJ j) ∧ w = w' := by
  cases j with
  | str s =>
    obtain ⟨rfl, hsl⟩ := str_val h
    have ha := asS_yes w (str s)
    go_enter Tryd.func143, Tryd.ntmps143
    go_wp2
    go_ret
    exact ⟨rfl, rfl⟩
  | bool b =>
    obtain rfl := bool_val h
    have ha := asS_no w 178 (.bool b) (by decide)
    go_enter Tryd.func143, Tryd.ntmps143
    go_wp2
    exact ⟨rfl, rfl, rfl⟩
  | null =>
    obtain rfl := null_val h
    have ha := asS_no w 179 (.agg #[]) (by decide)
    go_enter Tryd.func143, Tryd.ntmps143
    go_wp2
    exact ⟨rfl, rfl, rfl⟩
  | arr l =>
    obtain ⟨sl, rfl, hm⟩ := arr_elems h
    have ha := asS_no w 134 sl (by decide)
    go_enter Tryd.func143, Tryd.ntmps143
    go_wp2
    exact ⟨rfl, rfl, rfl⟩
  | obj l =>
    obtain ⟨sl, rfl, hm⟩ := obj_membs h
    have ha := asS_no w 138 sl (by decide)
    go_enter Tryd.func143, Tryd.ntmps143
    go_wp2
    exact ⟨rfl, rfl, rfl⟩
def arrJ : J → Option (List J)
  | .arr l => some l
  | _ => none
def objN (n : Nat) : J → Option (List (List UInt8 × J))
  | .obj l => if l.length = n then some l else none
  | _ => none
def arrsPost (k : Nat) (w : World) (o : Option (List J)) (e : Ending) (w' : World) : Prop :=
  match o with
  | none => e = .panicked noP ∧ w = w'
  | some l => (∃ sl, e = .returned sl ∧ elems k w sl l) ∧ w = w'
def mPost (k : Nat) (w : World) (o : Option (List (List UInt8 × J))) (e : Ending) (w' : World) : Prop :=
  match o with
  | none => e = .panicked noP ∧ w = w'
  | some l => (∃ sl, e = .returned sl ∧ membs k w sl l) ∧ w = w'
set_option maxHeartbeats 400000 in
theorem arrayOf_any (k : Nat) (v : Value) (j : J) (w : World) (h : repJ k w (inW w) v j) :
    Calls Tryd.prog 81 #[v] w (arrsPost (k - 1) w (arrJ j)) := by
  cases j with
  | str s =>
    obtain ⟨rfl, hsl⟩ := str_val h
    have ha := asAr_no w 177 (str s) (by decide)
    go_enter Tryd.func81, Tryd.ntmps81
    go_wp2
    exact ⟨rfl, rfl, rfl⟩
  | bool b =>
    obtain rfl := bool_val h
    have ha := asAr_no w 178 (.bool b) (by decide)
    go_enter Tryd.func81, Tryd.ntmps81
    go_wp2
    exact ⟨rfl, rfl, rfl⟩
  | null =>
    obtain rfl := null_val h
    have ha := asAr_no w 179 (.agg #[]) (by decide)
    go_enter Tryd.func81, Tryd.ntmps81
    go_wp2
    exact ⟨rfl, rfl, rfl⟩
  | arr l =>
    obtain ⟨sl, rfl, hm⟩ := arr_elems h
    have ha := asAr_yes w sl
    go_enter Tryd.func81, Tryd.ntmps81
    go_wp2
    go_ret
    exact ⟨⟨sl, rfl, hm⟩, rfl⟩
  | obj l =>
    obtain ⟨sl, rfl, hm⟩ := obj_membs h
    have ha := asAr_no w 138 sl (by decide)
    go_enter Tryd.func81, Tryd.ntmps81
    go_wp2
    exact ⟨rfl, rfl, rfl⟩
set_option maxRecDepth 20000 in
set_option maxHeartbeats 400000 in
theorem membersOf_any (k : Nat) (v : Value) (j : J) (w : World) (n : Nat) (h : repJ k w (inW w) v j) :
    Calls Tryd.prog 83 #[v, .int .i64 n] w (mPost (k - 1) w (objN n j)) := by
  cases j with
  | str s =>
    obtain ⟨rfl, hsl⟩ := str_val h
    have ha := asOb_no w 177 (str s) (by decide)
    go_enter Tryd.func83, Tryd.ntmps83
    go_wp2
    exact ⟨rfl, rfl, rfl⟩
  | bool b =>
    obtain rfl := bool_val h
    have ha := asOb_no w 178 (.bool b) (by decide)
    go_enter Tryd.func83, Tryd.ntmps83
    go_wp2
    exact ⟨rfl, rfl, rfl⟩
  | null =>
    obtain rfl := null_val h
    have ha := asOb_no w 179 (.agg #[]) (by decide)
    go_enter Tryd.func83, Tryd.ntmps83
    go_wp2
    exact ⟨rfl, rfl, rfl⟩
  | arr l =>
    obtain ⟨sl, rfl, hm⟩ := arr_elems h
    have ha := asOb_no w 134 sl (by decide)
    go_enter Tryd.func83, Tryd.ntmps83
    go_wp2
    exact ⟨rfl, rfl, rfl⟩
  | obj l =>
    obtain ⟨sl, rfl, hm⟩ := obj_membs h
    have ha := asOb_yes w sl
    have HM : Hid (membs (k - 1) w sl l) := hm
    obtain ⟨us, hr, _⟩ := hm
    obtain ⟨a, cap, rfl, hcap, _⟩ := row_view hr
    by_cases hn : l.length = n
    · have t1 : ((l.length : Int) == (n : Int)) = true := by simp [hn]
      have HE : Hid (objN n (.obj l) = some l) := by show _ = _; simp [objN, hn]
      clear hn
      go_enter Tryd.func83, Tryd.ntmps83
      go_wp2_with (go_at_call 84; refine (rneed_ok _).mono ?_; rintro e w' ⟨rfl, rfl⟩)
      go_ret
      rw [HE.out]
      exact ⟨⟨_, rfl, HM.out⟩, rfl⟩
    · have t1 : ((l.length : Int) == (n : Int)) = false := by simp; omega
      have HE : Hid (objN n (.obj l) = none) := by show _ = _; simp [objN, hn]
      clear hn
      go_enter Tryd.func83, Tryd.ntmps83
      go_wp2_with (go_at_call 84; refine (rneed_no _).mono ?_; rintro e w' ⟨rfl, rfl⟩)
      rw [HE.out]
      exact ⟨rfl, rfl, rfl⟩
end Go.Proofs.YtinnliapfdpfpaaDoor.P
