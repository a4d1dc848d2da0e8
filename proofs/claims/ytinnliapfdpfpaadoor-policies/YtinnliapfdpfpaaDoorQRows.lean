/-
  THE DOCUMENT's READER OF JSON: what stands in a list.
-/
import Derived.Test.YtinnliapfdpfpaaDoorQSee
import Derived.Test.YtinnliapfdpfpaaDoorQAdd2
import Derived.Test.YtinnliapfdpfpaaDoorPArr2
namespace Go.Proofs.YtinnliapfdpfpaaDoor.P
open Go.RowKit

theorem Tryd.infoI : (Tryd.prog.info? 3).map (fun i => (i.zero, i.size, i.bytes)) = some (some (.int .i64 0), 1, 8) := by kernel_rfl
def irow (w : World) (v : Value) (l : List Nat) : Prop := w.ownsRow 0 3 1 v l.length (l.map kidV)
theorem iapp_law {w : World} {ops : Array Oper} {rest : List Oper} {o : Oper} {a : Act} {Q : Exit → Act → World → Prop} (hgd : o.guard = none) (s x : Operand)
    (ho : o.op = .call { callee := .builtin .append, args := #[s, x], argTypes := #[77, 77] })
    (l : List Nat) (p : Nat) (v : Value) (hs : a.eval s = v) (hown : irow w v l) (H : Nat) (hx : a.eval x = .slice (some ⟨H, 0, none⟩) 1 1)
    (fr : Nat × Nat) (hblk : w.heap[H]? = some (.cells #[.int .i64 (p : Int)] 3 fr)) (hlen : l.length ≤ 1000000000)
    (h : ∀ g cap w', irow w' (.slice (some ⟨g, 0, none⟩) (l.length + 1) cap) (l ++ [p]) → w.grownBy w' v.ownBlock → (v.ownBlock = some g ∨ g = w.heap.size) → wpList Tryd.prog ops Q rest (a.put o.dst (.slice (some ⟨g, 0, none⟩) (l.length + 1) cap)) w') :
    wpList Tryd.prog ops Q (o :: rest) a w := by
  obtain ⟨i0, hi, hz0, hz1, hz2⟩ := info_parts Tryd.infoI
  refine wpList_append_lies _ hgd s x 77 ho 0 3 i0 (.int .i64 0) 1 8 Tryd.underlying77 hi hz0 hz1 hz2 rfl (by omega) v l.length (l.map kidV) hs hown ⟨H, 0, none⟩ 1 1 [.int .i64 (p : Int)] hx (by simp)
    (fun j u hu => World.news_of_block hblk j u (by simpa using hu)) (by intro u hu; simp at hu; subst hu; rfl) (by omega) (by unfold maxLen; omega) (by omega) (Nat.zero_le _) w.heap.size rfl ?_
  intro g cap w' h1 h2 h3 _
  refine h g cap w' ?_ h2 h3
  unfold irow
  rw [List.length_append, List.map_append]
  exact h1
/-- What a reading leaves: where it stands, whether it is bad, the table. -/
structure Reads (X : Nat → Prop) (b : Nat) (s : List UInt8) (p : Nat) (L : List Nd) (w : World) (q : Nat) (bad : Bool) (M : List Nd) (w' : World) : Prop where
  ts : TS X b s q bad (L ++ M) w'
  kept : Kept (fun g => ¬ X g) w w'
  le : p ≤ q
  few : M.length ≤ q - p + 1
def vPost (X : Nat → Prop) (b : Nat) (s : List UInt8) (p : Nat) (bad0 : Bool) (L : List Nd) (k : Nat) (w : World) (e : Ending) (w' : World) : Prop :=
  ∃ (n q : Nat) (bad : Bool) (M : List Nd), e = .returned (.int .i64 (n : Int)) ∧ Reads X b s p L w q bad M w' ∧ (bad0 = true → bad = true) ∧
    (bad0 = false → match val k (s.drop p) with
      | none => bad = true
      | some (j, r) => bad = false ∧ s.drop q = r ∧ treeJ k (L ++ M) n j)
def VAt (k : Nat) : Prop := ∀ (X : Nat → Prop) (b : Nat) (s : List UInt8) (p : Nat) (bad0 : Bool) (L : List Nd) (w : World) (d : Int), (∀ g, X g → g < w.heap.size) → TS X b s p bad0 L w → s.length ≤ 4000 → L.length + (s.length - p) ≤ 9000 → 0 ≤ d → d + k = 7 →
  Calls Tryd.prog 86 #[.pointer (some ⟨b, 0, none⟩), .int .i64 d] w (vPost X b s p bad0 L k w)
/-- Where a list stands, between its things. -/
def listAt {Y : Type} (one : List UInt8 → Option (Y × List UInt8)) (shut l0 : List UInt8) (js : List Y) (r : List UInt8) (done bad : Bool) : Prop :=
  (bad = true → listOf one shut l0 = none) ∧
  (bad = false → done = true → listOf one shut l0 = some (js, r)) ∧
  (bad = false → done = false → ∃ n, r.length < n ∧ listOf one shut l0 = (more one shut n r).map (fun y => (js ++ y.1, y.2)))
theorem more_skip {Y : Type} {one : List UInt8 → Option (Y × List UInt8)} (hs : ∀ s, one (skip s) = one s) (shut : List UInt8) : ∀ (n : Nat) (s : List UInt8), more one shut n (skip s) = more one shut n s
  | 0, _ => rfl
  | n + 1, s => by rw [more, more, hs]
theorem listAt.start {Y : Type} {one : List UInt8 → Option (Y × List UInt8)} (hs : ∀ s, one (skip s) = one s) (shut l0 : List UInt8) : listAt one shut l0 [] (if (tak shut l0).isSome then taken shut l0 else skip l0) (tak shut l0).isSome false := by
  refine ⟨(fun e => by cases e), fun _ h => ?_, fun _ h => ?_⟩
  · cases ht : tak shut l0 with
    | none => rw [ht] at h; cases h
    | some r => unfold listOf taken; rw [ht]; rfl
  · cases ht : tak shut l0 with
    | some r => rw [ht] at h; cases h
    | none =>
      refine ⟨l0.length + 1, ?_, ?_⟩
      · have := skip_len l0; simp; omega
      · unfold listOf; rw [ht]; simp only; rw [show (if (none : Option (List UInt8)).isSome = true then taken shut l0 else skip l0) = skip l0 from rfl, more_skip hs]
        cases more one shut (l0.length + 1) l0 <;> simp
/-- One thing more has been read; then a comma, or the end, or neither. -/
theorem listAt.bad {Y : Type} {one : List UInt8 → Option (Y × List UInt8)} {shut l0 : List UInt8} {js : List Y} {r : List UInt8} (h : listAt one shut l0 js r false false) (h1 : one r = none) : listOf one shut l0 = none := by
  obtain ⟨n, hn, he⟩ := h.2.2 rfl rfl
  match n, hn with
  | n + 1, _ => rw [he, more_none n h1]; rfl
theorem listAt.comma {Y : Type} {one : List UInt8 → Option (Y × List UInt8)} {c : UInt8} {l0 : List UInt8} {js : List Y} {r r1 r2 : List UInt8} {x : Y} (h : listAt one [c] l0 js r false false) (hc : c ≠ 44) (hsh : shrinks one) (h1 : one r = some (x, r1)) (h2 : tak [44] r1 = some r2) : listAt one [c] l0 (js ++ [x]) r2 false false := by
  obtain ⟨n, hn, he⟩ := h.2.2 rfl rfl
  have e1 := hsh _ _ _ h1
  have e2 := tak_len h2
  have h3 : tak [c] r1 = none := tak_two r1 (fun e => hc e.symm) h2
  refine ⟨(fun e => by cases e), (fun _ e => by cases e), fun _ _ => ?_⟩
  match n, hn with
  | n + 1, hn =>
    refine ⟨n, by simp at e2; omega, ?_⟩
    rw [he, more, h1]; simp only; rw [h3]; simp only; rw [h2]
    cases hm : more one [c] n r2 <;> simp [hm]
theorem listAt.end {Y : Type} {one : List UInt8 → Option (Y × List UInt8)} {shut l0 : List UInt8} {js : List Y} {r r1 r2 : List UInt8} {x : Y} (h : listAt one shut l0 js r false false) (h1 : one r = some (x, r1)) (h2 : tak shut r1 = some r2) : listAt one shut l0 (js ++ [x]) r2 true false := by
  obtain ⟨n, hn, he⟩ := h.2.2 rfl rfl
  refine ⟨(fun e => by cases e), fun _ _ => ?_, (fun _ e => by cases e)⟩
  match n, hn with
  | n + 1, hn => rw [he, more, h1]; simp only; rw [h2]; rfl
theorem listAt.neither {Y : Type} {one : List UInt8 → Option (Y × List UInt8)} {shut l0 : List UInt8} {js : List Y} {r r1 : List UInt8} {x : Y} (h : listAt one shut l0 js r false false) (h1 : one r = some (x, r1)) (h2 : tak shut r1 = none) (h3 : tak [44] r1 = none) : listOf one shut l0 = none := by
  obtain ⟨n, hn, he⟩ := h.2.2 rfl rfl
  match n, hn with
  | n + 1, hn => rw [he, more, h1]; simp only; rw [h2]; simp only; rw [h3]; rfl
theorem listAt.of_bad {Y : Type} {one : List UInt8 → Option (Y × List UInt8)} {shut l0 : List UInt8} (js : List Y) (r : List UInt8) (done : Bool) (h : listOf one shut l0 = none) : listAt one shut l0 js r done true :=
  ⟨fun _ => h, (fun e => by cases e), (fun e => by cases e)⟩
end Go.Proofs.YtinnliapfdpfpaaDoor.P
