/-
  THE DOCUMENT'S ANSWER: small functions of canonical forms: begins, named, joined.
-/
import Derived.Test.YtaeabbmekmjcaaaGreatDoorSCut
import Derived.Test.YtaeabbmekmjcaaaGreatDoorNPlain
namespace Go.Proofs.YtaeabbmekmjcaaaGreatDoor.R
open Go.RowKit
open Go.Proofs.YtaeabbmekmjcaaaGreatDoor.C (ret_bool ret_int)

/-- A row of texts that can be read, in a block below B. -/
def shold (w : World) (B : Nat) (v : Value) (l : List Bs) : Prop :=
  (v = .slice none 0 0 ∧ l = []) ∨ ∃ g cap, v = .slice (some ⟨g, 0, none⟩) l.length cap ∧ g < B ∧ ∀ k (h : k < l.length), w.cell? ⟨g, k, none⟩ = some (str l[k])
theorem shold_nil (w : World) (B : Nat) : shold w B (.slice none 0 0) [] := .inl ⟨rfl, rfl⟩
theorem srow.hold {w : World} {B : Nat} {v : Value} {l : List Bs} (h : srow w B v l) : shold w w.heap.size v l := by
  by_cases hl : l = []
  · subst hl
    obtain ⟨h1, ⟨rfl, hn⟩ | ⟨g, cap, cur, rfl, hg, _⟩⟩ := id h
    · exact .inl ⟨rfl, rfl⟩
    · exact .inr ⟨g, cap, rfl, ((World.ownsRow.lt h) g rfl).2, fun k hk => absurd hk (by simp)⟩
  · obtain ⟨g, cap, rfl, _, h2, h3⟩ := h.form hl
    exact .inr ⟨g, cap, rfl, h2, h3⟩
theorem shold.below {w w' : World} {B : Nat} {v : Value} {l : List Bs} (h : shold w B v l) (k : Below B w w') : shold w' B v l := by
  rcases h with h | ⟨g, cap, rfl, hg, hc⟩
  · exact .inl h
  · exact .inr ⟨g, cap, rfl, hg, fun j hj => (k.cell (p := ⟨g, j, none⟩) hg).trans (hc j hj)⟩
theorem shold.up {w : World} {B B' : Nat} {v : Value} {l : List Bs} (h : shold w B v l) (k : B ≤ B') : shold w B' v l := by
  rcases h with h | ⟨g, cap, rfl, hg, hc⟩
  · exact .inl h
  · exact .inr ⟨g, cap, rfl, by omega, hc⟩
theorem srow.below {w w' : World} {B : Nat} {v : Value} {l : List Bs} (h : srow w B v l) (k : Below w.heap.size w w') : srow w' B v l := by
  have hb := World.ownsRow.lt h
  obtain ⟨h1, ⟨rfl, hn⟩ | ⟨g, cap, cur, rfl, h2, h3, h4⟩⟩ := h
  · exact ⟨h1, .inl ⟨rfl, hn⟩⟩
  · exact ⟨h1, .inr ⟨g, cap, cur, rfl, h2, (k.block g (hb g rfl).2).trans h3, h4⟩⟩
theorem srow.up {w : World} {B B' : Nat} {v : Value} {l : List Bs} (h : srow w B v l) (hB : B' ≤ B) : srow w B' v l := by
  obtain ⟨h1, h2 | ⟨g, cap, cur, rfl, h2, h3, h4⟩⟩ := h
  · exact ⟨h1, .inl h2⟩
  · exact ⟨h1, .inr ⟨g, cap, cur, rfl, Nat.le_trans hB h2, h3, h4⟩⟩
theorem str_app (a b : Bs) : ((⟨a.toArray⟩ : ByteArray) ++ ⟨b.toArray⟩) = ⟨(a ++ b).toArray⟩ := by
  apply ByteArray.ext
  apply Array.ext'
  simp

set_option maxHeartbeats 400000 in
theorem rbegins_any (n pre : Bs) (w : World) (_hn : n.length ≤ 1000000) (_hp : pre.length ≤ 1000000) :
    Calls Tryz.prog 28 #[str n, str pre] w fun e w' => e = .returned (.bool (pre.isPrefixOf n)) ∧ w' = w := by
  have hpre : pre.isPrefixOf n = (n.take pre.length == pre) := by
    rw [Bool.eq_iff_iff, List.isPrefixOf_iff_prefix, beq_iff_eq, List.prefix_iff_eq_take]; exact eq_comm
  have HE : (⟨n.toArray⟩ : ByteArray).extract 0 pre.length = ⟨(n.take pre.length).toArray⟩ := by rw [ext_drop_take]; simp
  have HP : Hid (pre.isPrefixOf n = (n.take pre.length == pre)) := hpre
  by_cases h : pre.length ≤ n.length
  · go_enter Tryz.func28, Tryz.ntmps28
    have h1 : (pre.length : Int) ≤ (n.length : Int) := by omega
    go_wp2
    go_ret
    exact ⟨ret_bool HP.out.symm, rfl⟩
  · have HF : Hid (pre.isPrefixOf n = false) := by
      show _ = _
      rw [Bool.eq_false_iff]; intro h2
      have := (List.isPrefixOf_iff_prefix.1 h2).length_le
      omega
    go_enter Tryz.func28, Tryz.ntmps28
    go_wp2
    go_ret
    exact ⟨ret_bool (by rw [HF.out]), rfl⟩

def hasN (l : List Bs) (n : Bs) : Bool := l.contains n
theorem contains_take {l : List Bs} {k : Nat} (h : k < l.length) (n : Bs) (h0 : hasN (l.take k) n = false) : hasN (l.take (k + 1)) n = (l[k] == n) := by
  rw [List.take_succ_eq_append_getElem h]
  simp only [hasN, List.contains_eq_any_beq, List.any_append, List.any_cons, List.any_nil, Bool.or_false] at h0 ⊢
  rw [h0, Bool.false_or]
  exact Bool.beq_comm ..
theorem contains_hit {l : List Bs} {k : Nat} (h : k < l.length) (n : Bs) (he : (l[k] == n) = true) : hasN l n = true := by
  rw [hasN, List.contains_iff_mem]; rw [← eq_of_beq he]; exact List.getElem_mem h
set_option maxHeartbeats 400000 in
theorem rnamed_any (v : Value) (l : List Bs) (n : Bs) (B : Nat) (w : World) (h : shold w B v l) (hl : l.length ≤ 1000000000) :
    Calls Tryz.prog 29 #[v, str n] w fun e w' => e = .returned (.bool (hasN l n)) ∧ w' = w := by
  rcases h with ⟨rfl, rfl⟩ | ⟨g, cap, rfl, hg, hc⟩
  · go_enter Tryz.func29, Tryz.ntmps29
    go_wp2
    go_loop [5] (fun i => i = .int .i64 0) (fun _ => 0)
    case atStart => rfl
    case round =>
      subst hrel
      go_wp2
      go_ret
      exact ⟨rfl, rfl⟩
  · go_enter Tryz.func29, Tryz.ntmps29
    go_wp2
    go_loop [5] (fun i => ∃ k : Nat, k ≤ l.length ∧ i = .int .i64 k ∧ hasN (l.take k) n = false) (fun i => l.length - (intOf i).toNat)
    case atStart => exact ⟨0, Nat.zero_le _, rfl, by simp [hasN]⟩
    case round =>
      obtain ⟨k, hk, rfl, hno⟩ := hrel
      have HN : Hid (hasN (l.take k) n = false) := hno
      clear hno
      by_cases hlt : k < l.length
      · have c1 := hc k hlt
        have HS : Hid (hasN (l.take (k + 1)) n = (l[k] == n)) := contains_take hlt n HN.out
        have HH : Hid ((l[k] == n) = true → hasN l n = true) := contains_hit hlt n
        go_wp2
        · rename_i he _
          go_ret
          exact ⟨ret_bool (HH.out he).symm, rfl⟩
        · rename_i he
          go_round
          case rel => exact ⟨k + 1, by omega, by go_num, by rw [HS.out]; simpa using he⟩
          case measure => simp [intOf]; omega
      · have HT : Hid (hasN l n = false) := by have := HN.out; rwa [List.take_of_length_le (by omega)] at this
        go_wp2
        go_ret
        exact ⟨ret_bool HT.out.symm, rfl⟩

theorem join_snoc (l : List Bs) (x sep : Bs) (h : l ≠ []) : Lib.join (l ++ [x]) sep = Lib.join l sep ++ sep ++ x := by
  induction l with
  | nil => exact absurd rfl h
  | cons a r ih =>
    cases r with
    | nil => simp [join_cons2, Lib.join_one]
    | cons b r =>
      have := ih (by simp)
      simp only [List.cons_append] at this ⊢
      rw [join_cons2, this, join_cons2]
      simp
theorem join_take {l : List Bs} {k : Nat} (h : k < l.length) (sep : Bs) (h0 : 0 < k) : Lib.join (l.take (k + 1)) sep = Lib.join (l.take k) sep ++ sep ++ l[k] := by
  rw [List.take_succ_eq_append_getElem h]
  exact join_snoc _ _ _ (by intro e; have := congrArg List.length e; rw [List.length_take, List.length_nil] at this; omega)
theorem join_take0 {l : List Bs} (h : 0 < l.length) (sep : Bs) : Lib.join (l.take 1) sep = l[0] := by
  rw [show (1 : Nat) = 0 + 1 from rfl, List.take_succ_eq_append_getElem h]
  simp [Lib.join_one]
set_option maxHeartbeats 400000 in
theorem rjoined_any (v : Value) (l : List Bs) (sep : Bs) (B : Nat) (w : World) (h : shold w B v l) (hl : l.length ≤ 1000000000) (hm : ∀ x ∈ l, x.length ≤ 100000000) (hs : sep.length ≤ 1000) :
    Calls Tryz.prog 32 #[v, str sep] w fun e w' => e = .returned (str (Lib.join l sep)) ∧ w' = w := by
  rcases h with ⟨rfl, rfl⟩ | ⟨g, cap, rfl, hg, hc⟩
  · go_enter Tryz.func32, Tryz.ntmps32
    go_wp2
    go_loop [5, 6] (fun s i => s = str [] ∧ i = .int .i64 0) (fun _ _ => 0)
    case atStart => exact ⟨rfl, rfl⟩
    case round =>
      obtain ⟨rfl, rfl⟩ := hrel
      go_wp2
      go_ret
      exact ⟨rfl, rfl⟩
  · go_enter Tryz.func32, Tryz.ntmps32
    go_wp2
    go_loop [5, 6] (fun s i => ∃ (k : Nat) (j : Bs), k ≤ l.length ∧ i = .int .i64 k ∧ s = str j ∧ j = Lib.join (l.take k) sep ∧ j.length ≤ k * 1000000000) (fun _ i => l.length - (intOf i).toNat)
    case atStart => exact ⟨0, [], Nat.zero_le _, rfl, rfl, by simp [Lib.join, List.intercalate], by simp⟩
    case round =>
      obtain ⟨k, j, hk, rfl, rfl, hj, hjl⟩ := hrel
      have HJ : Hid (j = Lib.join (l.take k) sep) := hj
      clear hj
      by_cases hlt : k < l.length
      · have c1 := hc k hlt
        have hm1 := hm l[k] (List.getElem_mem hlt)
        by_cases h0 : 0 < k
        · have HS : Hid (Lib.join (l.take (k + 1)) sep = j ++ sep ++ l[k]) := by show _ = _; rw [HJ.out]; exact join_take hlt sep h0
          have h0' : (0 : Int) < (k : Int) := by omega
          go_wp2
          go_round
          case rel => exact ⟨k + 1, j ++ sep ++ l[k], by omega, by go_num, by simp only [str_app], HS.out.symm, by simp; omega⟩
          case measure => simp [intOf]; omega
        · obtain rfl : k = 0 := by omega
          have HS : Hid (Lib.join (l.take 1) sep = l[0]) := join_take0 hlt sep
          have HJ0 : j = [] := by rw [HJ.out]; simp [Lib.join, List.intercalate]
          subst HJ0
          go_wp2
          go_round
          case rel => exact ⟨1, l[0], by omega, by go_num, congrArg Value.string (str_app [] l[0]), HS.out.symm, by omega⟩
          case measure => simp [intOf]; omega
      · have HT : Hid (j = Lib.join l sep) := by have := HJ.out; rwa [List.take_of_length_le (by omega)] at this
        go_wp2
        go_ret
        exact ⟨by rw [← HT.out]; rfl, rfl⟩
end Go.Proofs.YtaeabbmekmjcaaaGreatDoor.R
