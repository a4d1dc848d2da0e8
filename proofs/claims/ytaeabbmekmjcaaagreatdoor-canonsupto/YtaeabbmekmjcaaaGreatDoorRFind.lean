/-
  LISTS OF PAIRS: rows of pairs of texts in memory; what is found in them.
-/
import Derived.Test.YtaeabbmekmjcaaaGreatDoorRLeaf
namespace Go.Proofs.YtaeabbmekmjcaaaGreatDoor.R
open Go.RowKit
open Go.Proofs.YtaeabbmekmjcaaaGreatDoor.C (ret_bool ret_int)

def pcells (l : Ps) : List Value := l.flatMap fun p => [str p.1, str p.2]
theorem pcells_len (l : Ps) : (pcells l).length = l.length * 2 := by
  induction l with
  | nil => rfl
  | cons p l ih => simp only [pcells, List.flatMap_cons, List.length_append, List.length_cons, List.length_nil] at *; omega
theorem pcells_snoc (l : Ps) (p : Bs × Bs) : pcells (l ++ [p]) = pcells l ++ [str p.1, str p.2] := by simp [pcells]
theorem pcells_at : ∀ (l : Ps) (k : Nat) (h : k < l.length), (pcells l)[2 * k]? = some (str l[k].1) ∧ (pcells l)[2 * k + 1]? = some (str l[k].2)
  | p :: l, 0, _ => ⟨rfl, rfl⟩
  | p :: l, k + 1, h => by
    have := pcells_at l k (by simpa using h)
    exact this
/-- A row of pairs of the call's own, from block B on. -/
def prow (w : World) (B : Nat) (v : Value) (l : Ps) : Prop := w.ownsRow B 53 2 v l.length (pcells l)
/-- A row of pairs that can be read, in a block below B. -/
def phold (w : World) (B : Nat) (v : Value) (l : Ps) : Prop :=
  (v = .slice none 0 0 ∧ l = []) ∨ ∃ g cap, v = .slice (some ⟨g, 0, none⟩) l.length cap ∧ g < B ∧ ∀ k (h : k < l.length), w.cell? ⟨g, k * 2, none⟩ = some (str l[k].1) ∧ w.cell? ⟨g, k * 2 + 1, none⟩ = some (str l[k].2)
theorem prow.hold {w : World} {B : Nat} {v : Value} {l : Ps} (h : prow w B v l) : phold w w.heap.size v l := by
  have hb := World.ownsRow.lt h
  have hc := fun g hv => World.ownsRow.cells h (g := g) hv
  obtain ⟨h1, ⟨rfl, hn⟩ | ⟨g, cap, cur, rfl, _⟩⟩ := h
  · exact .inl ⟨rfl, List.eq_nil_of_length_eq_zero hn⟩
  · refine .inr ⟨g, cap, rfl, (hb g rfl).2, fun k hk => ?_⟩
    obtain ⟨e1, e2⟩ := pcells_at l k hk
    have c1 := hc g rfl (2 * k) _ e1
    have c2 := hc g rfl (2 * k + 1) _ e2
    simp only [Addr.add_lit, Nat.zero_add] at c1 c2
    rw [Nat.mul_comm] at c1 c2
    exact ⟨c1, c2⟩
theorem phold.below {w w' : World} {B : Nat} {v : Value} {l : Ps} (h : phold w B v l) (k : Below B w w') : phold w' B v l := by
  rcases h with h | ⟨g, cap, rfl, hg, hc⟩
  · exact .inl h
  · exact .inr ⟨g, cap, rfl, hg, fun j hj => ⟨(k.cell (p := ⟨g, j * 2, none⟩) hg).trans (hc j hj).1, (k.cell (p := ⟨g, j * 2 + 1, none⟩) hg).trans (hc j hj).2⟩⟩
theorem findP_take {l : Ps} {k : Nat} (h : k < l.length) (n : Bs) (hn : findP (l.take k) n = none) : findP (l.take (k + 1)) n = if l[k].1 = n then some l[k].2 else none := by
  rw [List.take_succ_eq_append_getElem h, findP_snoc, hn]
theorem findP_hit {l : Ps} {k : Nat} (n v : Bs) (h : findP (l.take k) n = some v) : findP l n = some v := by
  rw [← List.take_append_drop k l]
  generalize l.take k = a at h
  generalize l.drop k = b
  induction a with
  | nil => cases h
  | cons p a ih => simp only [List.cons_append, findP] at h ⊢; split <;> simp_all
/-- What a search answers. -/
def findEnd : Option Bs → Ending
  | some v => .returned (.tuple #[str v, .bool true])
  | none => .returned (.tuple #[str [], .bool false])
theorem findE {o : Option Bs} {v : Bs} (h : o = some v) : Ending.returned (.tuple #[str v, .bool true]) = findEnd o := by rw [h]; rfl
theorem findN {o : Option Bs} (h : o = none) : Ending.returned (.tuple #[str [], .bool false]) = findEnd o := by rw [h]; rfl

set_option maxHeartbeats 400000 in
theorem rfind_any (v : Value) (l : Ps) (n : Bs) (B : Nat) (w : World) (h : phold w B v l) (hl : l.length ≤ 1000000000) :
    Calls Tryz.prog 27 #[v, str n] w fun e w' => e = findEnd (findP l n) ∧ w' = w := by
  rcases h with ⟨rfl, rfl⟩ | ⟨g, cap, rfl, hg, hc⟩
  · go_enter Tryz.func27, Tryz.ntmps27
    go_wp2
    go_loop [6] (fun i => i = .int .i64 0) (fun _ => 0)
    case atStart => rfl
    case round =>
      subst hrel
      go_wp2
      go_ret2
      exact ⟨rfl, rfl⟩
  · go_enter Tryz.func27, Tryz.ntmps27
    go_wp2
    go_loop [6] (fun i => ∃ k : Nat, k ≤ l.length ∧ i = .int .i64 k ∧ findP (l.take k) n = none) (fun i => l.length - (intOf i).toNat)
    case atStart => exact ⟨0, Nat.zero_le _, rfl, by simp [findP]⟩
    case round =>
      obtain ⟨k, hk, rfl, hno⟩ := hrel
      have HN : Hid (findP (l.take k) n = none) := hno
      clear hno
      by_cases hlt : k < l.length
      · obtain ⟨c1, c2⟩ := hc k hlt
        have HS : Hid (findP (l.take (k + 1)) n = if l[k].1 = n then some l[k].2 else none) := findP_take hlt n HN.out
        go_wp2
        · rename_i he _
          go_ret2
          refine ⟨findE (findP_hit (k := k + 1) _ _ ?_), rfl⟩
          rw [HS.out, if_pos (eq_of_beq he)]
        · rename_i he
          go_round
          case rel => exact ⟨k + 1, by omega, by go_num, by rw [HS.out, if_neg (by simpa using he)]⟩
          case measure => simp [intOf]; omega
      · have HT : Hid (findP l n = none) := by have := HN.out; rwa [List.take_of_length_le (by omega)] at this
        go_wp2
        go_ret2
        exact ⟨findN HT.out, rfl⟩

set_option maxHeartbeats 400000 in
theorem find_any (v : Value) (l : Ps) (n : Bs) (B : Nat) (w : World) (h : phold w B v l) (hB : B ≤ w.heap.size) (hl : l.length ≤ 1000000000) :
    Calls Tryz.prog 46 #[v, str n] w fun e w' => e = findEnd (findP l n) ∧ Below w.heap.size w w' := by
  rcases h with ⟨rfl, rfl⟩ | ⟨g, cap, rfl, hg, hc⟩
  · go_enter Tryz.func46, Tryz.ntmps46
    go_wp2
    go_loop [10] (fun i => i = .int .i64 0) (fun _ => 0)
    case atStart => rfl
    case round =>
      subst hrel
      go_wp2
      go_ret2
      exact ⟨rfl, Below.refl _ _⟩
  · go_enter Tryz.func46, Tryz.ntmps46
    go_wp2
    go_loopw [10] (fun i wr => ∃ k : Nat, k ≤ l.length ∧ i = .int .i64 k ∧ findP (l.take k) n = none ∧ Below w.heap.size w wr) (fun i _ => l.length - (intOf i).toNat)
    case atStart => exact ⟨0, Nat.zero_le _, rfl, by simp [findP], Below.refl _ _⟩
    case round =>
      obtain ⟨k, hk, rfl, hno, hb⟩ := hrel
      have HN : Hid (findP (l.take k) n = none) := hno
      clear hno
      have hsz := hb.size
      by_cases hlt : k < l.length
      · obtain ⟨c1, c2⟩ := hc k hlt
        replace c1 := (hb.cell (p := ⟨g, k * 2, none⟩) (show g < w.heap.size by omega)).trans c1
        replace c2 := (hb.cell (p := ⟨g, k * 2 + 1, none⟩) (show g < w.heap.size by omega)).trans c2
        have HS : Hid (findP (l.take (k + 1)) n = if l[k].1 = n then some l[k].2 else none) := findP_take hlt n HN.out
        clear hc
        go_wp2
        · rename_i he
          go_ret2
          refine ⟨findE (findP_hit (k := k + 1) _ _ ?_), hb.alloc hsz _⟩
          rw [HS.out, if_pos (eq_of_beq he)]
        · rename_i he
          go_roundw
          case rel => exact ⟨k + 1, by omega, by go_num, by rw [HS.out, if_neg (by simpa using he)], hb.alloc hsz _⟩
          case measure => simp [intOf]; omega
      · have HT : Hid (findP l n = none) := by have := HN.out; rwa [List.take_of_length_le (by omega)] at this
        go_wp2
        go_ret2
        exact ⟨findN HT.out, hb⟩
end Go.Proofs.YtaeabbmekmjcaaaGreatDoor.R
