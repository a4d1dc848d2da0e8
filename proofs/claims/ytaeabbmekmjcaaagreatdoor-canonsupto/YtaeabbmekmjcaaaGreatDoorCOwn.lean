import Derived.Test.YtaeabbmekmjcaaaGreatDoorCLeaf
import Derived.Deep.AppendLies
import Derived.Deep.RegionLaw
import Derived.Laws.BitsLemmas
import Derived.Laws.BytesArg
import Derived.Laws.IdiomStrings
namespace Go.Proofs.YtaeabbmekmjcaaaGreatDoor.C
open Go.RowKit
theorem Tryz.info5 : (Tryz.prog.info? 5).map (fun i => (i.zero, i.size, i.bytes)) = some (some (.int .u8 0), 1, 1) := by kernel_rfl
def u8v (c : UInt8) : Value := .int .u8 (c.toNat : Int)
def owns (w : World) (B : Nat) (v : Value) (l : List UInt8) : Prop := w.ownsRow B 5 1 v l.length (l.map u8v)
theorem owns.lt {w : World} {B : Nat} {v : Value} {l : List UInt8} (h : owns w B v l) : ∀ k, v.ownBlock = some k → B ≤ k := fun k hk => (World.ownsRow.lt h k hk).1
theorem owns.alloc {w : World} {B : Nat} {v : Value} {l : List UInt8} (h : owns w B v l) (o : Obj) : owns (w.alloc o) B v l := World.ownsRow.alloc h o

theorem app_law {w : World} {ops : Array Oper} {rest : List Oper} {o : Oper} {a : Act} {Q : Exit → Act → World → Prop} (hgd : o.guard = none) (s x : Operand)
    (ho : o.op = .call { callee := .builtin .append, args := #[s, x], argTypes := #[76, 76] })
    (B : Nat) (l m : List UInt8) (v : Value) (hs : a.eval s = v) (hown : owns w B v l) (H : Nat) (n : Nat) (hn : m.length = n) (hx : a.eval x = .slice (some ⟨H, 0, none⟩) n n)
    (fr : Nat × Nat) (hblk : w.heap[H]? = some (.cells (m.map u8v).toArray 5 fr)) (hm : 0 < n) (hlen : l.length + n ≤ 100000000000) (hB : B ≤ w.heap.size)
    (h : ∀ v' w', owns w' B v' (l ++ m) → Below B w w' → wpList Tryz.prog ops Q rest (a.put o.dst v') w') : wpList Tryz.prog ops Q (o :: rest) a w := by
  obtain ⟨i0, hi, hz0, hz1, hz2⟩ := info_parts Tryz.info5
  subst hn
  refine wpList_append_lies _ hgd s x 76 ho B 5 i0 (.int .u8 0) 1 1 Tryz.underlying76 hi hz0 hz1 hz2 rfl (by omega) v l.length (l.map u8v) hs hown ⟨H, 0, none⟩ m.length m.length (m.map u8v) hx (by simp)
    (fun j u hu => World.news_of_block hblk j u (by simpa using hu)) (by intro u hu; simp at hu; obtain ⟨c, _, rfl⟩ := hu; rfl) hm (by unfold maxLen; omega) (by omega) hB w.heap.size rfl ?_
  intro g cap w' h1 h2 _ _
  exact h _ w' (by simpa [owns] using h1) ((Below.refl B w).grown h2 hB hown.lt)

theorem app_step {w : World} {ops : Array Oper} {o : Oper} {a : Act} {K : Act → World → Prop} {Q : Exit → Act → World → Prop} {E : Prop} (hgd : o.guard = none) (s x : Operand)
    (ho : o.op = .call { callee := .builtin .append, args := #[s, x], argTypes := #[76, 76] })
    (B : Nat) (l m : List UInt8) (v : Value) (hs : a.eval s = v) (hown : owns w B v l) (H : Nat) (n : Nat) (hn : m.length = n) (hx : a.eval x = .slice (some ⟨H, 0, none⟩) n n)
    (fr : Nat × Nat) (hblk : w.heap[H]? = some (.cells (m.map u8v).toArray 5 fr)) (hm : 0 < n) (hlen : l.length + n ≤ 100000000000) (hB : B ≤ w.heap.size)
    (h : ∀ v' w', owns w' B v' (l ++ m) → Below B w w' → K (a.put o.dst v') w') :
    if Region.wanted o (yielded ops a.tmps) = true then Oper.wp Tryz.prog o a w K Q else E := by
  obtain ⟨i0, hi, hz0, hz1, hz2⟩ := info_parts Tryz.info5
  subst hn
  refine step_append_lies _ hgd s x 76 ho B 5 i0 (.int .u8 0) 1 1 Tryz.underlying76 hi hz0 hz1 hz2 rfl (by omega) v l.length (l.map u8v) hs hown ⟨H, 0, none⟩ m.length m.length (m.map u8v) hx (by simp)
    (fun j u hu => World.news_of_block hblk j u (by simpa using hu)) (by intro u hu; simp at hu; obtain ⟨c, _, rfl⟩ := hu; rfl) hm (by unfold maxLen; omega) (by omega) hB w.heap.size rfl ?_
  intro g cap w' h1 h2 _ _
  exact h _ w' (by simpa [owns] using h1) ((Below.refl B w).grown h2 hB hown.lt)

theorem owns.conv {w : World} {B : Nat} {v : Value} {l : List UInt8} (h : owns w B v l) : (convert 76 9 v).run Tryz.prog w = .ok (.string ⟨l.toArray⟩) w := by
  have h' := h
  obtain ⟨_, ⟨rfl, hn⟩ | ⟨g, cap, cur, rfl, _⟩⟩ := h'
  · have : l = [] := List.eq_nil_of_length_eq_zero hn
    subst this
    rw [run_convert_bytes_string w 76 9 5 none 0 0 Tryz.underlying76 Tryz.underlying5 Tryz.underlying9]
    rfl
  · refine run_convert_bytes_back w 76 9 5 ⟨g, 0, none⟩ cap l Tryz.underlying76 Tryz.underlying5 Tryz.underlying9 fun j hj => ?_
    exact World.ownsRow.cells h (g := g) rfl j _ (by simp [u8v, hj])

theorem ret_str {a b : List UInt8} (h : a = b) : Ending.returned (.string ⟨a.toArray⟩) = .returned (.string ⟨b.toArray⟩) := by rw [h]
end Go.Proofs.YtaeabbmekmjcaaaGreatDoor.C
