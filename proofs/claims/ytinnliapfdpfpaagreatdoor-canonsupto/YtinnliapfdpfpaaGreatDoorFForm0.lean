/-
  CANONICAL FORMS, the document's: what stands while a form is told; the names picked one by one.
-/
import Derived.Test.YtinnliapfdpfpaaGreatDoorFCanon
import Derived.Test.YtinnliapfdpfpaaGreatDoorCEnc
import Derived.Test.YtinnliapfdpfpaaGreatDoorHTag
namespace Go.Proofs.YtinnliapfdpfpaaGreatDoor.R
open Go.RowKit
open Go.Proofs.YtinnliapfdpfpaaGreatDoor.C (ret_bool ret_int enc enc_len rencode_any)

theorem rencode_r (l : Bs) (p : Bool) (w : World) (hl : l.length ≤ 1000000000) : Calls Tryz.prog 70 #[str l, .bool p] w fun e w' => e = .returned (str (enc p l)) ∧ Below w.heap.size w w' :=
  rencode_any ⟨l.toArray⟩ p w (by simp [ByteArray.size]; omega)
theorem rfind_some {v : Value} {l : Ps} {n u : Bs} {B : Nat} {w : World} (h : phold w B v l) (hl : l.length ≤ 1000000000) (hf : findP l n = some u) :
    Calls Tryz.prog 67 #[v, str n] w fun e w' => e = .returned (.tuple #[str u, .bool true]) ∧ w = w' := (rfind_r v l n B w h hl).mono fun _ _ ⟨h1, h2⟩ => ⟨by rw [h1, hf]; rfl, h2⟩
theorem rfind_none {v : Value} {l : Ps} {n : Bs} {B : Nat} {w : World} (h : phold w B v l) (hl : l.length ≤ 1000000000) (hf : findP l n = none) :
    Calls Tryz.prog 67 #[v, str n] w fun e w' => e = .returned (.tuple #[str [], .bool false]) ∧ w = w' := (rfind_r v l n B w h hl).mono fun _ _ ⟨h1, h2⟩ => ⟨by rw [h1, hf]; rfl, h2⟩
theorem rbegins_r (n pre : Bs) (w : World) (hn : n.length ≤ 1000000) (hp : pre.length ≤ 1000000) : Calls Tryz.prog 68 #[str n, str pre] w fun e w' => e = .returned (.bool (pre.isPrefixOf n)) ∧ w = w' :=
  (rbegins_any n pre w hn hp).mono fun _ _ ⟨h1, h2⟩ => ⟨h1, h2.symm⟩
theorem rnamed_r (v : Value) (l : List Bs) (n : Bs) (B : Nat) (w : World) (h : shold w B v l) (hl : l.length ≤ 1000000000) : Calls Tryz.prog 69 #[v, str n] w fun e w' => e = .returned (.bool (hasN l n)) ∧ w = w' :=
  (rnamed_any v l n B w h hl).mono fun _ _ ⟨h1, h2⟩ => ⟨h1, h2.symm⟩
theorem rjoined_r (v : Value) (l : List Bs) (sep : Bs) (B : Nat) (w : World) (h : shold w B v l) (hl : l.length ≤ 1000000000) (hm : ∀ x ∈ l, x.length ≤ 100000000) (hs : sep.length ≤ 1000) :
    Calls Tryz.prog 72 #[v, str sep] w fun e w' => e = .returned (str (Lib.join l sep)) ∧ w = w' := (rjoined_any v l sep B w h hl hm hs).mono fun _ _ ⟨h1, h2⟩ => ⟨h1, h2.symm⟩
theorem shold.len {w : World} {B : Nat} {v : Value} {l : List Bs} (h : shold w B v l) : ∃ a c, v = .slice a l.length c := by
  rcases h with ⟨rfl, rfl⟩ | ⟨g, cap, rfl, hg, hc⟩
  · exact ⟨none, 0, rfl⟩
  · exact ⟨_, cap, rfl⟩

/-- What stands while the document's form is told. -/
structure FSt (w0 : World) (B b : Nat) (m p y : Bs) (qv : Value) (q : Ps) (hv : Value) (hs : Ps) (nv : Value) (N : List Bs) (W : World) : Prop where
  d0 : W.cell? ⟨b, 0, none⟩ = some (str m)
  d1 : W.cell? ⟨b, 1, none⟩ = some (str p)
  d2 : W.cell? ⟨b, 2, none⟩ = some qv
  d3 : W.cell? ⟨b, 3, none⟩ = some hv
  d4 : W.cell? ⟨b, 4, none⟩ = some (str y)
  hz : b < B
  hB : B ≤ W.heap.size
  hq : phold W B qv q
  hh : phold W B hv hs
  hn : shold W B nv N
  hw : Below b w0 W
section
variable {w0 : World} {B b : Nat} {m p y : Bs} {qv : Value} {q : Ps} {hv : Value} {hs : Ps} {nv : Value} {N : List Bs} {W W' : World}
theorem FSt.step (h : FSt w0 B b m p y qv q hv hs nv N W) (k : Below B W W') : FSt w0 B b m p y qv q hv hs nv N W' :=
  ⟨(k.cell (p := ⟨b, 0, none⟩) h.hz).trans h.d0, (k.cell (p := ⟨b, 1, none⟩) h.hz).trans h.d1, (k.cell (p := ⟨b, 2, none⟩) h.hz).trans h.d2, (k.cell (p := ⟨b, 3, none⟩) h.hz).trans h.d3, (k.cell (p := ⟨b, 4, none⟩) h.hz).trans h.d4, h.hz, Nat.le_trans h.hB k.size,
    h.hq.below k, h.hh.below k, h.hn.below k, h.hw.trans (k.mono (Nat.le_of_lt h.hz))⟩
theorem FSt.call (h : FSt w0 B b m p y qv q hv hs nv N W) (k : Below W.heap.size W W') : FSt w0 B b m p y qv q hv hs nv N W' := h.step (k.mono h.hB)
theorem FSt.drew (h : FSt w0 B b m p y qv q hv hs nv N W) : FSt w0 B b m p y qv q hv hs nv N W.drew := h.step (Below.refl _ _).drew
theorem FSt.alloc (h : FSt w0 B b m p y qv q hv hs nv N W) (o : Obj) : FSt w0 B b m p y qv q hv hs nv N (W.alloc o) := h.step ((Below.refl _ _).alloc h.hB _)
end

/-- The name ahead of the k-th. -/
def lastN (N : List Bs) (k : Nat) : Option Bs := if k = 0 then none else N[k - 1]?
theorem lastN_succ {N : List Bs} {k : Nat} (h : k < N.length) : lastN N (k + 1) = some N[k] := by simp [lastN, h]
theorem ref_none {hs : Ps} {N : List Bs} {k : Nat} (h : k < N.length) (hf : findP hs N[k] = none) : pickRef hs (lastN N k) (N.drop k) = none := by
  rw [List.drop_eq_getElem_cons h]; unfold pickRef; rw [hf]
theorem ref_auth {hs : Ps} {N : List Bs} {k : Nat} {v : Bs} (h : k < N.length) (hf : findP hs N[k] = some v) (ha : N[k] = [97, 117, 116, 104]) : pickRef hs (lastN N k) (N.drop k) = none := by
  rw [List.drop_eq_getElem_cons h]; unfold pickRef; rw [hf]; simp only; rw [if_pos (.inl ha)]
theorem ref_low {hs : Ps} {N : List Bs} {k : Nat} {v : Bs} (h : k + 1 < N.length) (hf : findP hs N[k + 1] = some v) (ha : N[k + 1] ≤ N[k]) : pickRef hs (lastN N (k + 1)) (N.drop (k + 1)) = none := by
  rw [lastN_succ (by omega), List.drop_eq_getElem_cons h]; unfold pickRef; rw [hf]; simp only; rw [if_pos (.inr ⟨_, rfl, ha⟩)]
theorem ref_first {hs : Ps} {N : List Bs} {v : Bs} (h : 0 < N.length) (hf : findP hs N[0] = some v) (ha : N[0] ≠ [97, 117, 116, 104]) : pickRef hs (lastN N 0) (N.drop 0) = (pickRef hs (lastN N 1) (N.drop 1)).map ((N[0], v) :: ·) := by
  rw [lastN_succ h, List.drop_eq_getElem_cons h]
  conv => lhs; unfold pickRef
  rw [hf]; simp only; rw [if_neg (by rintro (k | ⟨l, hl, _⟩); exact ha k; simp [lastN] at hl)]
theorem ref_next {hs : Ps} {N : List Bs} {k : Nat} {v : Bs} (h : k + 1 < N.length) (hf : findP hs N[k + 1] = some v) (ha : N[k + 1] ≠ [97, 117, 116, 104]) (hl : ¬ N[k + 1] ≤ N[k]) :
    pickRef hs (lastN N (k + 1)) (N.drop (k + 1)) = (pickRef hs (lastN N (k + 1 + 1)) (N.drop (k + 1 + 1))).map ((N[k + 1], v) :: ·) := by
  rw [lastN_succ h, lastN_succ (by omega), List.drop_eq_getElem_cons h]
  conv => lhs; unfold pickRef
  rw [hf]; simp only; rw [if_neg (by rintro (k | ⟨l, e, h2⟩); exact ha k; cases e; exact hl h2)]
theorem ge_cases (x y : Bs) : (y ≤ x ∧ Op.bytesLess x y = false) ∨ (¬ y ≤ x ∧ Op.bytesLess x y = true) := by
  rw [bytesLess_eq]
  by_cases h : x < y
  · exact .inr ⟨List.not_le.2 h, by simpa using h⟩
  · exact .inl ⟨List.not_lt.1 h, by simpa using h⟩
theorem told_snoc (s : Ps) (x v : Bs) : told (s ++ [(x, v)]) = told s ++ x ++ [58] ++ v ++ [10] := by simp [told, lineText]
theorem str_told (t x v : Bs) : ((⟨t.toArray⟩ : ByteArray) ++ ⟨x.toArray⟩ ++ ⟨#[58]⟩ ++ ⟨v.toArray⟩ ++ ⟨#[10]⟩) = ⟨(t ++ x ++ [58] ++ v ++ [10]).toArray⟩ := by
  apply ByteArray.ext
  apply Array.ext'
  simp
def fEnd : Option Bs → Ending
  | none => .returned (.tuple #[str [], .bool false])
  | some t => .returned (.tuple #[str t, .bool true])
theorem fEnd_no {o : Option Bs} (h : o = none) : Ending.returned (.tuple #[str [], .bool false]) = fEnd o := by rw [h]; rfl
theorem fEnd_ok {o : Option Bs} {t : Bs} (h : o = some t) : Ending.returned (.tuple #[str t, .bool true]) = fEnd o := by rw [h]; rfl
end Go.Proofs.YtinnliapfdpfpaaGreatDoor.R
