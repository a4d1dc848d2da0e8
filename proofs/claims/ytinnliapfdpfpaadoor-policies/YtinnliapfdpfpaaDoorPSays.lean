/-
  WHAT A POLICY SAYS, as the program has it.
-/
import Derived.Test.YtinnliapfdpfpaaDoorPRd
import Derived.Test.YtinnliapfdpfpaaDoorPFit
namespace Go.Proofs.YtinnliapfdpfpaaDoor.P
open Go.RowKit
open Go.Proofs.YtinnliapfdpfpaaDoor.C (ret_bool ret_int ret_str)

theorem any_take_succ {α : Type} (f : α → Bool) (l : List α) (k : Nat) (h : k < l.length) (h0 : (l.take k).any f = false) (h1 : f l[k] = false) : (l.take (k + 1)).any f = false := by
  rw [take_snoc' h, List.any_append, h0]; simp [h1]
theorem any_hit {α : Type} (f : α → Bool) (l : List α) (k : Nat) (h : k < l.length) (h1 : f l[k] = true) : l.any f = true := by
  rw [List.any_eq_true]; exact ⟨l[k], List.getElem_mem h, h1⟩
/-- Where the first is found, or -1. -/
def idxPost (b : Bool) (w : World) (e : Ending) (w' : World) : Prop := (∃ r : Int, e = .returned (.int .i64 r) ∧ decide (0 ≤ r) = b) ∧ Below w.heap.size w w'
theorem idxPost_hit {b : Bool} {w w' : World} {r : Nat} (h : b = true) (hb : Below w.heap.size w w') : idxPost b w (.returned (.int .i64 (r : Int))) w' := by subst h; exact ⟨⟨_, rfl, by simp⟩, hb⟩
theorem idxPost_miss {b : Bool} {w w' : World} (h : b = false) (hb : Below w.heap.size w w') : idxPost b w (.returned (.int .i64 (-1))) w' := by subst h; exact ⟨⟨_, rfl, by simp⟩, hb⟩
set_option maxHeartbeats 1000000 in
theorem index_any (v : Value) (l : List (List UInt8)) (s : List UInt8) (w : World) (h : srow w 0 v l) (hl : l.length ≤ 1000000) :
    Calls Tryd.prog 146 #[v, str s] w (idxPost (l.any (fun y => s == y)) w) := by
  obtain ⟨a, cap, rfl, hcap, hcells⟩ := row_view h
  have HC : Hid (∀ j u, (l.map str)[j]? = some u → ∃ g, a = some ⟨g, 0, none⟩ ∧ w.cell? ⟨g, j, none⟩ = some u ∧ g < w.heap.size) := hcells
  clear hcells h
  go_enter Tryd.func146, Tryd.ntmps146
  go_wp2
  go_loop [8] (fun i => ∃ k : Nat, k ≤ l.length ∧ i = .int .i64 k ∧ (l.take k).any (fun y => s == y) = false) (fun i => l.length - (intOf i).toNat)
  case atStart => exact ⟨0, Nat.zero_le _, rfl, by simp⟩
  case round =>
    obtain ⟨k, hk, rfl, hno⟩ := hrel
    have HN : Hid ((l.take k).any (fun y => s == y) = false) := hno
    clear hno
    by_cases hlt : k < l.length
    · obtain ⟨g, rfl, c1, hg⟩ := HC.out k (str l[k]) (by rw [List.getElem?_map, List.getElem?_eq_getElem hlt]; rfl)
      cases he : (s == l[k]) with
      | true =>
        have HY : Hid (l.any (fun y => s == y) = true) := any_hit _ l k hlt he
        clear HN
        go_wp2
        go_ret
        exact idxPost_hit HY.out (Below.refl _ _)
      | false =>
        have HY : Hid ((l.take (k + 1)).any (fun y => s == y) = false) := any_take_succ _ l k hlt HN.out he
        clear HN
        go_wp2
        go_round
        case rel => exact ⟨k + 1, by omega, by go_num, HY.out⟩
        case measure => simp [intOf]; omega
    · have HT : Hid (l.any (fun y => s == y) = false) := by
        show _ = _
        have := HN.out
        rwa [List.take_of_length_le (by omega)] at this
      clear HN
      go_wp2
      go_ret
      exact idxPost_miss HT.out (Below.refl _ _)
theorem contains_any' (l : List (List UInt8)) (s : List UInt8) : l.contains s = l.any (fun y => s == y) := by
  induction l with
  | nil => rfl
  | cons x l ih => simp only [List.contains_cons, List.any_cons, ih]
set_option maxHeartbeats 1000000 in
theorem contains_any (v : Value) (l : List (List UInt8)) (s : List UInt8) (w : World) (h : srow w 0 v l) (hl : l.length ≤ 1000000) :
    Calls Tryd.prog 125 #[v, str s] w fun e w' => e = .returned (.bool (l.contains s)) ∧ Below w.heap.size w w' := by
  have HE : Hid (l.contains s = l.any (fun y => s == y)) := contains_any' l s
  go_enter Tryd.func125, Tryd.ntmps125
  go_wp2_with fail
  refine (index_any v l s w h hl).mono ?_
  rintro e w1 ⟨⟨r, rfl, hr⟩, hb⟩
  go_wp2
  go_ret
  exact ⟨ret_bool (by rw [HE.out, ← hr]), hb⟩
set_option maxHeartbeats 1000000 in
theorem has_any (v : Value) (l : List (List UInt8)) (s : List UInt8) (w : World) (h : srow w 0 v l) (hl : l.length ≤ 1000000) :
    Calls Tryd.prog 91 #[v, str s] w fun e w' => e = .returned (.bool (inL l s)) ∧ Below w.heap.size w w' := by
  have C1 : Hid (_) := contains_any v l s
  have C2 : Hid (_) := contains_any v l [42]
  cases hc : l.contains s with
  | true =>
    have HY : Hid (inL l s = true) := by show _ = _; unfold inL; rw [hc]; rfl
    rw [hc] at C1
    go_enter Tryd.func91, Tryd.ntmps91
    go_wp2_with (go_at_call 125; refine (C1.out w h hl).mono ?_; rintro e w1 ⟨rfl, hb⟩)
    go_ret
    exact ⟨ret_bool HY.out.symm, hb⟩
  | false =>
    have HY : Hid (inL l s = l.contains [42]) := by show _ = _; unfold inL; rw [hc]; rfl
    rw [hc] at C1
    go_enter Tryd.func91, Tryd.ntmps91
    go_wp2_with fail
    refine (C1.out w h hl).mono ?_
    rintro e w1 ⟨rfl, hb⟩
    have h1 := h.below hb
    go_wp2_with fail
    refine (C2.out w1 h1 hl).mono ?_
    rintro e w2 ⟨rfl, hb2⟩
    go_wp2
    go_ret
    exact ⟨ret_bool (by rw [HY.out]; simp), below_trans hb hb2⟩
set_option maxHeartbeats 1000000 in
theorem indexFunc_any (g : Nat) (caps : Array Value) (eg : ∀ args w, (callFunc g args).run Tryd.prog w = .ok (.enter g args) w) (p : List UInt8 → Bool)
    (v : Value) (l : List (List UInt8)) (w : World) (h : srow w 0 v l) (hl : l.length ≤ 1000000)
    (F : ∀ y w1, y ∈ l → Below w.heap.size w w1 → Calls Tryd.prog g (#[str y] ++ caps) w1 fun e w' => e = .returned (.bool (p y)) ∧ Below w1.heap.size w1 w') :
    Calls Tryd.prog 126 #[v, .func (.func g) #[] caps] w (idxPost (l.any p) w) := by
  obtain ⟨a, cap, rfl, hcap, hcells⟩ := row_view h
  have HC : Hid (∀ j u, (l.map str)[j]? = some u → ∃ g, a = some ⟨g, 0, none⟩ ∧ w.cell? ⟨g, j, none⟩ = some u ∧ g < w.heap.size) := hcells
  have HF : Hid (_) := F
  clear hcells h F
  go_enter Tryd.func126, Tryd.ntmps126
  go_wp2
  go_loopw [8] (fun i wr => ∃ k : Nat, k ≤ l.length ∧ i = .int .i64 k ∧ (l.take k).any p = false ∧ Below w.heap.size w wr) (fun i _ => l.length - (intOf i).toNat)
  case atStart => exact ⟨0, Nat.zero_le _, rfl, by simp, Below.refl _ _⟩
  case round =>
    obtain ⟨k, hk, rfl, hno, hb⟩ := hrel
    have HN : Hid ((l.take k).any p = false) := hno
    clear hno
    by_cases hlt : k < l.length
    · obtain ⟨g', rfl, c1, hg⟩ := HC.out k (str l[k]) (by rw [List.getElem?_map, List.getElem?_eq_getElem hlt]; rfl)
      replace c1 := (hb.cell (p := ⟨g', k, none⟩) hg).trans c1
      go_wp2_with fail
      refine Calls.mono (HF.out l[k] wr (List.getElem_mem hlt) hb) ?_
      rintro e w1 ⟨rfl, hb1⟩
      cases he : p l[k] with
      | true =>
        have HY : Hid (l.any p = true) := any_hit _ l k hlt he
        clear HN
        go_wp2
        go_ret
        exact idxPost_hit HY.out (below_trans hb hb1)
      | false =>
        have HY : Hid ((l.take (k + 1)).any p = false) := any_take_succ _ l k hlt HN.out he
        clear HN
        go_wp2
        go_roundw
        case rel => exact ⟨k + 1, by omega, by go_num, HY.out, below_trans hb hb1⟩
        case measure => simp [intOf]; omega
    · have HT : Hid (l.any p = false) := by
        show _ = _
        have := HN.out
        rwa [List.take_of_length_le (by omega)] at this
      clear HN
      go_wp2
      go_ret
      exact idxPost_miss HT.out hb
set_option maxHeartbeats 1000000 in
theorem fitOne (K : Nat) (y key : List UInt8) (w : World) (hc : w.cell? ⟨K, 0, none⟩ = some (str key)) (hy : y.length ≤ 4000) (hk : key.length ≤ 140737488355328) :
    Calls Tryd.prog 93 #[str y, .pointer (some ⟨K, 0, none⟩)] w fun e w' => e = .returned (.bool (like y key)) ∧ Below w.heap.size w w' := by
  go_enter Tryd.func93, Tryd.ntmps93
  go_wp2_with (go_at_call 94; refine (fits_any y key _ hy hk).mono ?_; rintro e w1 ⟨rfl, hb⟩)
  go_ret
  exact ⟨rfl, hb⟩
set_option maxHeartbeats 1000000 in
theorem containsFunc_any (K : Nat) (key : List UInt8) (v : Value) (l : List (List UInt8)) (w : World) (h : srow w 0 v l) (hl : l.length ≤ 1000000) (hc : w.cell? ⟨K, 0, none⟩ = some (str key)) (hy : ∀ y ∈ l, y.length ≤ 4000) (hk : key.length ≤ 140737488355328) :
    Calls Tryd.prog 92 #[v, .func (.func 93) #[] #[.pointer (some ⟨K, 0, none⟩)]] w fun e w' => e = .returned (.bool (l.any (like · key))) ∧ Below w.heap.size w w' := by
  have hK : K < w.heap.size := World.block_lt_of_cell? w ⟨K, 0, none⟩ hc
  have C : Hid (_) := indexFunc_any 93 #[.pointer (some ⟨K, 0, none⟩)] (enters_of Tryd.func93 (by kernel_rfl) rfl) (like · key) v l
  have F : Hid (∀ y w1, y ∈ l → Below w.heap.size w w1 → Calls Tryd.prog 93 (#[str y] ++ #[.pointer (some ⟨K, 0, none⟩)]) w1 fun e w' => e = .returned (.bool (like y key)) ∧ Below w1.heap.size w1 w') :=
    fun y w1 hm hb => fitOne K y key w1 ((hb.cell (p := ⟨K, 0, none⟩) hK).trans hc) (hy y hm) hk
  go_enter Tryd.func92, Tryd.ntmps92
  go_wp2_with fail
  refine (C.out w h hl F.out).mono ?_
  rintro e w1 ⟨⟨r, rfl, hr⟩, hb⟩
  clear C F
  go_wp2
  go_ret
  exact ⟨rfl, hb⟩
end Go.Proofs.YtinnliapfdpfpaaDoor.P
