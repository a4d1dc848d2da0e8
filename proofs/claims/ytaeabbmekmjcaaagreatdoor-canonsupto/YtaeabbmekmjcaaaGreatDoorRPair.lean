/-
  PAIRS THAT ARE PUT INTO A LIST; codes that are decoded or given up.
-/
import Derived.Test.YtaeabbmekmjcaaaGreatDoorRFind
namespace Go.Proofs.YtaeabbmekmjcaaaGreatDoor.R
open Go.RowKit
open Go.Proofs.YtaeabbmekmjcaaaGreatDoor.C (ret_bool ret_int dec decode_any decEnd)

theorem Tryz.infoP : (Tryz.prog.info? 53).map (fun i => (i.zero, i.size, i.bytes)) = some (some (.agg #[.string ⟨#[]⟩, .string ⟨#[]⟩]), 2, 32) := by kernel_rfl
theorem prow.lt {w : World} {B : Nat} {v : Value} {l : Ps} (h : prow w B v l) : ∀ k, v.ownBlock = some k → B ≤ k := fun k hk => (World.ownsRow.lt h k hk).1
theorem prow.alloc {w : World} {B : Nat} {v : Value} {l : Ps} (h : prow w B v l) (o : Obj) : prow (w.alloc o) B v l := World.ownsRow.alloc h o
theorem prow_nil (w : World) (B : Nat) : prow w B (.slice none 0 0) [] := World.ownsRow_nil w B 53 2
theorem prow.below {w w' : World} {B : Nat} {v : Value} {l : Ps} (h : prow w B v l) (k : Below w.heap.size w w') : prow w' B v l := by
  have hb := World.ownsRow.lt h
  obtain ⟨h1, ⟨rfl, hn⟩ | ⟨g, cap, cur, rfl, h2, h3, h4⟩⟩ := h
  · exact ⟨h1, .inl ⟨rfl, hn⟩⟩
  · exact ⟨h1, .inr ⟨g, cap, cur, rfl, h2, (k.block g (hb g rfl).2).trans h3, h4⟩⟩
theorem prow.up {w : World} {B B' : Nat} {v : Value} {l : Ps} (h : prow w B v l) (hB : B' ≤ B) : prow w B' v l := by
  obtain ⟨h1, h2 | ⟨g, cap, cur, rfl, h2, h3, h4⟩⟩ := h
  · exact ⟨h1, .inl h2⟩
  · exact ⟨h1, .inr ⟨g, cap, cur, rfl, Nat.le_trans hB h2, h3, h4⟩⟩

theorem papp_law {w : World} {ops : Array Oper} {rest : List Oper} {o : Oper} {a : Act} {Q : Exit → Act → World → Prop} (hgd : o.guard = none) (s x : Operand)
    (ho : o.op = .call { callee := .builtin .append, args := #[s, x], argTypes := #[31, 31] })
    (B : Nat) (l : Ps) (p : Bs × Bs) (v : Value) (hs : a.eval s = v) (hown : prow w B v l) (H : Nat) (hx : a.eval x = .slice (some ⟨H, 0, none⟩) 1 1)
    (fr : Nat × Nat) (hblk : w.heap[H]? = some (.cells #[str p.1, str p.2] 53 fr)) (hlen : l.length ≤ 1000000000) (hB : B ≤ w.heap.size)
    (h : ∀ v' w', prow w' B v' (l ++ [p]) → Below B w w' → wpList Tryz.prog ops Q rest (a.put o.dst v') w') : wpList Tryz.prog ops Q (o :: rest) a w := by
  obtain ⟨i0, hi, hz0, hz1, hz2⟩ := info_parts Tryz.infoP
  refine wpList_append_lies _ hgd s x 31 ho B 53 i0 (.agg #[.string ⟨#[]⟩, .string ⟨#[]⟩]) 2 32 Tryz.underlying31 hi hz0 hz1 hz2 rfl (by omega) v l.length (pcells l) hs hown ⟨H, 0, none⟩ 1 1 [str p.1, str p.2] hx (by simp)
    (fun j u hu => World.news_of_block hblk j u (by simpa using hu)) (by intro u hu; simp at hu; rcases hu with rfl | rfl <;> rfl) (by omega) (by unfold maxLen; omega) (by omega) hB w.heap.size rfl ?_
  intro g cap w' h1 h2 _ _
  refine h _ w' ?_ ((Below.refl B w).grown h2 hB hown.lt)
  unfold prow
  rw [pcells_snoc, List.length_append]
  exact h1

set_option maxHeartbeats 400000 in
theorem addPair_ok (v : Value) (l : Ps) (p : Bs × Bs) (B : Nat) (w : World) (hr : prow w B v l) (hB : B ≤ w.heap.size) (hl : l.length ≤ 100000) (hn : findP l p.1 = none) :
    Calls Tryz.prog 71 #[v, .agg #[str p.1, str p.2]] w fun e w' => ∃ v', e = .returned v' ∧ prow w' B v' (l ++ [p]) ∧ Below B w w' := by
  have HN : Hid (findP l p.1 = none) := hn
  clear hn
  go_enter Tryz.func71, Tryz.ntmps71
  go_wp2_with fail
  have hr1 := hr.alloc (.cells #[str p.1, str p.2] 53)
  refine (find_any v l p.1 _ _ hr1.hold (Nat.le_refl _) (by omega)).mono ?_
  rintro e w1 ⟨rfl, hb1⟩
  rw [HN.out]
  simp only [findEnd]
  have c1 : w1.cell? ⟨w.heap.size, 0, none⟩ = some (str p.1) := (hb1.cell (p := ⟨w.heap.size, 0, none⟩) (by simp)).trans (by simp [go_sem])
  have c2 : w1.cell? ⟨w.heap.size, 1, none⟩ = some (str p.2) := (hb1.cell (p := ⟨w.heap.size, 1, none⟩) (by simp)).trans (by simp [go_sem])
  have hr2 := hr1.below hb1
  have hz := hb1.size
  have hb : Below B w w1 := ((Below.refl B w).alloc hB _).trans (hb1.mono (by simp; omega))
  clear hr hr1 hb1
  simp at hz
  go_wp2_with (first | (go_at_call 66; refine (need_ok _).mono ?_; rintro e w' ⟨rfl, rfl⟩) | (at_builtin; refine papp_law rfl _ _ rfl B l p _ rfl (hr2.alloc _) _ rfl _ (heap_alloc_new _ _) (by omega) (by simp; omega) ?_; intro v' w2 hr3 hb3))
  go_ret
  exact ⟨v', rfl, hr3, hb.trans (((Below.refl B _).alloc (by omega) _).trans hb3)⟩
set_option maxHeartbeats 400000 in
theorem addPair_no (v : Value) (l : Ps) (p : Bs × Bs) (B : Nat) (w : World) (hr : prow w B v l) (hl : l.length ≤ 100000) (hn : ¬ findP l p.1 = none) :
    Calls Tryz.prog 71 #[v, .agg #[str p.1, str p.2]] w fun e w' => e = .panicked noR ∧ Below w.heap.size w w' := by
  obtain ⟨u, hu⟩ := Option.ne_none_iff_exists'.1 hn
  have HN : Hid (findP l p.1 = some u) := hu
  clear hn hu
  go_enter Tryz.func71, Tryz.ntmps71
  go_wp2_with fail
  have hr1 := hr.alloc (.cells #[str p.1, str p.2] 53)
  refine (find_any v l p.1 _ _ hr1.hold (Nat.le_refl _) (by omega)).mono ?_
  rintro e w1 ⟨rfl, hb1⟩
  rw [HN.out]
  simp only [findEnd]
  have hb : Below w.heap.size w w1 := ((Below.refl _ w).alloc (Nat.le_refl _) _).trans (hb1.mono (by simp))
  clear hr hr1 hb1
  go_wp2_with (go_at_call 66; refine (need_no _).mono ?_; rintro e w' ⟨rfl, rfl⟩)
  exact ⟨rfl, rfl, hb⟩

/-- What decoding answers, where a code that is none is given up. -/
def decR : Option Bs → Ending
  | some t => .returned (str t)
  | none => .panicked noR
set_option maxHeartbeats 400000 in
theorem decode_r (l : Bs) (p : Bool) (w : World) (hl : l.length ≤ 1000000) :
    Calls Tryz.prog 69 #[str l, .bool p] w fun e w' => e = decR (dec p l) ∧ Below w.heap.size w w' := by
  go_enter Tryz.func69, Tryz.ntmps69
  go_wp2_with fail
  refine (decode_any ⟨l.toArray⟩ p _ (by simp [ByteArray.size]; omega)).mono ?_
  rintro e w1 ⟨rfl, hb1⟩
  rw [show dec p (⟨l.toArray⟩ : ByteArray).data.toList = dec p l from rfl]
  cases hd : dec p l with
  | none =>
    simp only [decEnd]
    go_wp2_with (go_at_call 66; refine (need_no _).mono ?_; rintro e w' ⟨rfl, rfl⟩)
    exact ⟨rfl, by rw [hd]; rfl, hb1⟩
  | some t =>
    simp only [decEnd]
    go_wp2_with (go_at_call 66; refine (need_ok _).mono ?_; rintro e w' ⟨rfl, rfl⟩)
    go_ret
    exact ⟨by rw [hd]; rfl, hb1⟩
end Go.Proofs.YtaeabbmekmjcaaaGreatDoor.R
