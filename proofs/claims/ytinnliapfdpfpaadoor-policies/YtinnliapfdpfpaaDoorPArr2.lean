/-
  THE READER OF JSON: an array.
-/
import Derived.Test.YtinnliapfdpfpaaDoorPArr
namespace Go.Proofs.YtinnliapfdpfpaaDoor.P
open Go.RowKit

theorem row_mono {w : World} {B : Nat} {e : TypeId} {size : Nat} {v : Value} {n : Nat} {xs : List Value} (h : w.ownsRow B e size v n xs) : w.ownsRow 0 e size v n xs := by
  refine ⟨h.1, ?_⟩
  rcases h.2 with h0 | ⟨g, cap, cur, hv, _, rest⟩
  · exact .inl h0
  · exact .inr ⟨g, cap, cur, hv, Nat.zero_le _, rest⟩
theorem val_skip : ∀ (k : Nat) (s : List UInt8), val k (skip s) = val k s
  | 0, _ => rfl
  | k + 1, s => by rw [val, val]; simp only [tak_skip]
theorem memOf_skip {X : Type} (v : List UInt8 → Option (X × List UInt8)) (s : List UInt8) : memOf v (skip s) = memOf v s := by unfold memOf; rw [tak_skip]
def arrPost (k : Nat) (w : World) (b : Nat) (o : Option (List J × List UInt8)) (e : Ending) (w' : World) : Prop :=
  match o with
  | none => e = .panicked noJ ∧ w.grownBy w' (some b)
  | some (l, r) => ∃ sl, e = .returned sl ∧ rdr w' b r ∧ w.grownBy w' (some b) ∧ repJ (k + 1) w' (fun g => w.heap.size ≤ g) (.iface 134 sl) (.arr l)
theorem AQ.start (k b : Nat) (d : Int) (w : World) (hb : b < w.heap.size) :
    AQ k b w.heap.size (w.heap.size + 1) (w.heap.size + 1 + 1) (w.heap.size + 1 + 1 + 1) d w [] (((w.alloc (.cells #[.pointer (some ⟨b, 0, none⟩)] 159)).alloc (.cells #[.int .i64 d] 3)).alloc (.cells #[.slice none 0 0] 134)) := by
  refine ⟨by omega, by omega, by omega, by omega, by omega, by omega, by omega, by omega, by omega, by simp, by omega, by omega, ?_, ?_, ?_, ?_, .slice none 0 0, [], ?_, World.ownsRow_nil _ _ _ _, trivial⟩
  · simp [go_sem]
  · simp [go_sem]
  · simp [go_sem]
  · exact (((Kept.refl (· = b) w).alloc _).alloc _).alloc _ |>.grown
  · simp [go_sem]
theorem AQ.done {k b R O V B : Nat} {d : Int} {w0 : World} {acc : List J} {w : World} (q : AQ k b R O V B d w0 acc w) :
    ∃ sl, w.cell? ⟨V, 0, none⟩ = some sl ∧ repJ (k + 1) w (fun g => w0.heap.size ≤ g) (.iface 134 sl) (.arr acc) := by
  obtain ⟨sl, us, h1, h2, h3⟩ := q.vals
  have := q.oldB
  refine ⟨sl, h1, sl, us, rfl, row_mono h2, fun g hg => by have := (World.ownsRow.lt h2 g hg).1; omega, all2_mono (fun _ _ hr => repJ.mono k hr (fun g hg => ⟨by omega, hg.2⟩)) h3⟩
set_option maxHeartbeats 1000000 in
theorem readArray_any (k b : Nat) (d : Int) (s : List UInt8) (w : World) (IH : ValAt k) (hd : d + k = 7) (hd0 : 0 ≤ d) (h : rdr w b s) (hs : s.length ≤ 4000) :
    Calls Tryd.prog 140 #[.pointer (some ⟨b, 0, none⟩), .int .i64 d] w (arrPost k w b (listOf (val k) [93] s)) := by
  have hmf : ∀ (fn : Fn) (first cap : Array Value) (w : World), (Instr.makeFunc fn first cap).run Tryd.prog w = .ok (.func fn first cap) w := fun _ _ _ _ => rfl
  have q0 := AQ.start k b d w h.lt
  have r0 : rdr (((w.alloc (.cells #[.pointer (some ⟨b, 0, none⟩)] 159)).alloc (.cells #[.int .i64 d] 3)).alloc (.cells #[.slice none 0 0] 134)) b s :=
    ((((Kept.refl (fun _ => False) w).alloc _).alloc _).alloc _).rdr h (fun e => e)
  have C : Hid (_) := readList_any (val k) (val_shrinks k) (val_skip k) b 155 #[.pointer (some ⟨w.heap.size + 1 + 1, 0, none⟩), .pointer (some ⟨w.heap.size, 0, none⟩), .pointer (some ⟨w.heap.size + 1, 0, none⟩)] [93]
    (enters_of Tryd.func155 (by kernel_rfl) rfl)
    (AQ k b w.heap.size (w.heap.size + 1) (w.heap.size + 1 + 1) (w.heap.size + 1 + 1 + 1) d w) (fun w' => w.grownBy w' (some b)) (fun _ _ _ q h => q.grown h) (fun _ _ q => q.kept)
    (fun acc s w1 q r hl => arrOne k b _ _ _ _ d w IH hd hd0 acc s w1 q r hl) s
  go_enter Tryd.func140, Tryd.ntmps140
  go_wp2_with fail
  refine (C.out _ r0 hs q0).mono ?_
  clear C
  cases hl : listOf (val k) [93] s with
  | none =>
    rintro e w1 ⟨rfl, g1⟩
    go_wp2
    exact ⟨rfl, rfl, g1⟩
  | some p =>
    obtain ⟨l, r⟩ := p
    rintro e w1 ⟨rfl, r1, q1⟩
    obtain ⟨sl, c1, j1⟩ := q1.done
    have g1 := q1.kept
    clear q1 q0 r0
    go_wp2
    go_ret
    rw [hl]
    exact ⟨sl, rfl, r1, g1, j1⟩
end Go.Proofs.YtinnliapfdpfpaaDoor.P
