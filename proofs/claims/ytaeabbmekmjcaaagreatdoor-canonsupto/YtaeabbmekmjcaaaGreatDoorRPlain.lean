/-
  THE PLAIN MATHEMATICS OF REQUESTS: cutting, splitting, pairs, header lines, the body's length; what a text says as a request. It speaks of no program.
-/
import Derived.Test.YtaeabbmekmjcaaaGreatDoorCPlain
import Derived.Lib.Split
import Derived.Lib.ItoaNum
namespace Go.Proofs.YtaeabbmekmjcaaaGreatDoor.R
open Go.Proofs.YtaeabbmekmjcaaaGreatDoor.C (dec)

abbrev Bs := List UInt8
abbrev Ps := List (Bs × Bs)

/-! ### Cutting -/
theorem index_neg {s sep : Bs} (h : ¬ 0 ≤ Lib.index s sep) : Lib.index s sep = -1 := by
  have := Lib.index_ge s sep; omega
theorem cut_miss {s sep : Bs} (h : Lib.index s sep = -1) : Lib.cut s sep = (s, [], false) := by
  unfold Lib.cut; rw [h]; rfl
theorem cut_pre {s sep : Bs} (h : sep.isPrefixOf s = true) (hs : s ≠ [] ∨ sep = []) : Lib.cut s sep = ([], s.drop sep.length, true) := by
  have e : Lib.index s sep = 0 := by
    cases s with
    | nil => rcases hs with hs | hs
             · exact absurd rfl hs
             · subst hs; rfl
    | cons b l => unfold Lib.index; rw [if_pos h]
  unfold Lib.cut; rw [e]; simp
theorem cut_cons {b : UInt8} {l sep : Bs} (h : sep.isPrefixOf (b :: l) = false) : Lib.cut (b :: l) sep = (b :: (Lib.cut l sep).1, (Lib.cut l sep).2.1, (Lib.cut l sep).2.2) := by
  have e : Lib.index (b :: l) sep = if Lib.index l sep == -1 then -1 else Lib.index l sep + 1 := by
    rw [Lib.index]; rw [h]; simp
  by_cases hl : 0 ≤ Lib.index l sep
  · have hne : (Lib.index l sep == -1) = false := by rw [beq_eq_false_iff_ne]; omega
    rw [hne] at e
    simp only [Bool.false_eq_true, if_false] at e
    have e1 : (Lib.index l sep + 1).toNat = (Lib.index l sep).toNat + 1 := by omega
    have e2 : (Lib.index l sep).toNat + 1 + sep.length = ((Lib.index l sep).toNat + sep.length) + 1 := by omega
    unfold Lib.cut
    rw [e, if_pos (by omega), if_pos hl, e1, e2]
    simp
  · have hm := index_neg hl
    rw [cut_miss hm]
    rw [hm] at e
    rw [cut_miss (by rw [e]; rfl)]
theorem cut_nil {sep : Bs} (h : sep ≠ []) : Lib.cut [] sep = ([], [], false) := by
  apply cut_miss
  cases sep with
  | nil => exact absurd rfl h
  | cons a t => rfl

theorem pre_nil (sep : Bs) : sep.isPrefixOf ([] : Bs) = sep.isEmpty := by cases sep <;> rfl

theorem cut_len (sep : Bs) : ∀ s : Bs, (Lib.cut s sep).1.length + (Lib.cut s sep).2.1.length + (if (Lib.cut s sep).2.2 then sep.length else 0) = s.length := by
  intro s
  induction s with
  | nil =>
    cases sep with
    | nil => rfl
    | cons a t => rw [cut_nil (by simp)]; rfl
  | cons b l ih =>
    cases h : sep.isPrefixOf (b :: l) with
    | true =>
      rw [cut_pre h (Or.inl (by simp))]
      have hle : sep.length ≤ (b :: l).length := (List.isPrefixOf_iff_prefix.1 h).length_le
      simp only [List.length_nil, List.length_drop, if_true]; omega
    | false => rw [cut_cons h]; simp only [List.length_cons]; omega
theorem cut_le (s sep : Bs) : (Lib.cut s sep).1.length ≤ s.length ∧ (Lib.cut s sep).2.1.length ≤ s.length := by
  have := cut_len sep s; omega

/-- The parts of a text between all places of another. -/
theorem countFrom_more (sep : Bs) (hs : sep ≠ []) : ∀ (n m : Nat) (s : Bs), s.length < n → s.length < m → Lib.countFrom sep n s = Lib.countFrom sep m s := by
  intro n
  induction n with
  | zero => intro m s h; omega
  | succ n ih =>
    intro m s hn hm
    obtain ⟨m, rfl⟩ : ∃ k, m = k + 1 := ⟨m - 1, by omega⟩
    simp only [Lib.countFrom]
    by_cases h : Lib.index s sep == -1
    · simp only [h, if_true]
    · simp only [h, Bool.false_eq_true, if_false]
      have hp : 0 < sep.length := List.length_pos_iff.2 hs
      by_cases h0 : s = []
      · subst h0
        exfalso; apply h
        cases sep with
        | nil => exact absurd rfl hs
        | cons a t => rfl
      · have : 0 < s.length := List.length_pos_iff.2 h0
        have hd : (s.drop ((Lib.index s sep).toNat + sep.length)).length < s.length := by rw [List.length_drop]; omega
        rw [ih m _ (by omega) (by omega)]
theorem split_rec (s sep : Bs) (hs : sep ≠ []) : Lib.split s sep = if (Lib.cut s sep).2.2 then (Lib.cut s sep).1 :: Lib.split (Lib.cut s sep).2.1 sep else [s] := by
  by_cases h : 0 ≤ Lib.index s sep
  · have hne : (Lib.index s sep == -1) = false := by rw [beq_eq_false_iff_ne]; omega
    have hp : 0 < sep.length := List.length_pos_iff.2 hs
    have h0 : s ≠ [] := by
      intro h0; subst h0
      cases sep with
      | nil => exact absurd rfl hs
      | cons a t => simp [Lib.index] at h
    have hsl : 0 < s.length := List.length_pos_iff.2 h0
    have hd : (s.drop ((Lib.index s sep).toNat + sep.length)).length < s.length := by rw [List.length_drop]; omega
    have ec : Lib.cut s sep = (s.take (Lib.index s sep).toNat, s.drop ((Lib.index s sep).toNat + sep.length), true) := by unfold Lib.cut; rw [if_pos h]
    have e1 : Lib.count s sep = Lib.count (s.drop ((Lib.index s sep).toNat + sep.length)) sep + 1 := by
      unfold Lib.count
      rw [show s.length + 1 = (s.length) + 1 from rfl, Lib.countFrom, hne]
      simp only [Bool.false_eq_true, if_false]
      rw [countFrom_more sep hs s.length ((s.drop ((Lib.index s sep).toNat + sep.length)).length + 1) _ (by omega) (by omega)]
      omega
    rw [ec]
    simp only [if_true]
    unfold Lib.split
    rw [e1, Lib.splitK, hne]
    simp
  · have hm := index_neg h
    rw [cut_miss hm]
    simp only [Bool.false_eq_true, if_false]
    unfold Lib.split Lib.count
    rw [Lib.countFrom, hm]
    rfl
theorem splitK_len (sep : Bs) : ∀ (k : Nat) (s : Bs), (Lib.splitK sep 0 k s).length ≤ k + 1
  | 0, _ => Nat.le_refl _
  | k + 1, s => by
    unfold Lib.splitK
    split
    · simp
    · have := splitK_len sep k (s.drop ((Lib.index s sep).toNat + sep.length))
      simp only [List.length_cons]; omega
theorem split_len1 (sep : Bs) (hs : sep ≠ []) : ∀ (n : Nat) (s : Bs), s.length ≤ n → (Lib.split s sep).length ≤ s.length + 1 ∧ ∀ t ∈ Lib.split s sep, t.length ≤ s.length := by
  have hp : 0 < sep.length := List.length_pos_iff.2 hs
  intro n
  induction n with
  | zero =>
    intro s hn
    have e := split_rec s sep hs
    have hc := cut_len sep s
    cases hf : (Lib.cut s sep).2.2 with
    | true => rw [hf] at hc; simp only [if_true] at hc; omega
    | false => rw [hf] at e; simp only [Bool.false_eq_true, if_false] at e; rw [e]; simp
  | succ n ih =>
    intro s hn
    have e := split_rec s sep hs
    have hc := cut_len sep s
    cases hf : (Lib.cut s sep).2.2 with
    | true =>
      rw [hf] at hc e
      simp only [if_true] at hc e
      obtain ⟨i1, i2⟩ := ih (Lib.cut s sep).2.1 (by omega)
      rw [e]
      refine ⟨by simp only [List.length_cons]; omega, ?_⟩
      intro t ht
      rcases List.mem_cons.1 ht with rfl | ht
      · omega
      · have := i2 t ht; omega
    | false => rw [hf] at e; simp only [Bool.false_eq_true, if_false] at e; rw [e]; simp
theorem split_len (s sep : Bs) (hs : sep ≠ []) : (Lib.split s sep).length ≤ s.length + 1 := (split_len1 sep hs s.length s (Nat.le_refl _)).1
theorem split_mem {s sep t : Bs} (hs : sep ≠ []) (h : t ∈ Lib.split s sep) : t.length ≤ s.length := (split_len1 sep hs s.length s (Nat.le_refl _)).2 t h

/-! ### Pairs -/
def findP : Ps → Bs → Option Bs
  | [], _ => none
  | p :: r, k => if p.1 = k then some p.2 else findP r k
theorem findP_snoc (l : Ps) (p : Bs × Bs) (k : Bs) : findP (l ++ [p]) k = match findP l k with
    | some v => some v
    | none => if p.1 = k then some p.2 else none := by
  induction l with
  | nil => simp [findP]
  | cons q l ih => simp only [List.cons_append, findP]; split <;> simp_all

def pairOf (t : Bs) : Option (Bs × Bs) :=
  match dec false (Lib.cut t [61]).1, dec false (Lib.cut t [61]).2.1 with
  | some n, some v => if n = [] then none else some (n, v)
  | _, _ => none
def addP (l : Ps) (p : Bs × Bs) : Option Ps := if findP l p.1 = none then some (l ++ [p]) else none
def queryFrom : Ps → List Bs → Option Ps
  | l, [] => some l
  | l, t :: r => match pairOf t with
    | none => none
    | some p => match addP l p with
      | none => none
      | some l' => queryFrom l' r
def queryOf (q : Bs) : Option Ps := queryFrom [] (Lib.split q [38])

/-! ### Header lines -/
def nameB (b : UInt8) : Bool := decide (97 ≤ b.toNat ∧ b.toNat ≤ 122) || decide (48 ≤ b.toNat ∧ b.toNat ≤ 57) || b.toNat == 45
def showB (b : UInt8) : Bool := decide (32 ≤ b.toNat ∧ b.toNat ≤ 126)
def hname (n : Bs) : Bool := n.all nameB && decide (1 ≤ n.length ∧ n.length ≤ 20)
def headerOf (l : Bs) : Option (Bs × Bs) :=
  if (Lib.cut l [58, 32]).2.2 = true ∧ hname (Lib.cut l [58, 32]).1 = true ∧ (Lib.cut l [58, 32]).2.1.all showB = true then some ((Lib.cut l [58, 32]).1, (Lib.cut l [58, 32]).2.1) else none
/-- The same, read otherwise: at the first colon. -/
def lineOf (l : Bs) : Option (Bs × Bs) :=
  if (Lib.cut l [58]).2.2 = true ∧ hname (Lib.cut l [58]).1 = true ∧ (Lib.cut l [58]).2.1.head? = some 32 ∧ (Lib.cut l [58]).2.1.all showB = true then some ((Lib.cut l [58]).1, (Lib.cut l [58]).2.1.tail) else none

theorem two_to_one : ∀ s : Bs, (Lib.cut s [58, 32]).2.2 = true → (58 : UInt8) ∉ (Lib.cut s [58, 32]).1 → Lib.cut s [58] = ((Lib.cut s [58, 32]).1, 32 :: (Lib.cut s [58, 32]).2.1, true) := by
  intro s
  induction s with
  | nil => intro h; rw [cut_nil (by simp)] at h; cases h
  | cons b l ih =>
    intro h hn
    cases h2 : ([58, 32] : Bs).isPrefixOf (b :: l) with
    | true =>
      rw [cut_pre h2 (Or.inl (by simp))]
      obtain ⟨hb, ht⟩ : 58 = b ∧ ([32] : Bs).isPrefixOf l = true := by simpa [List.isPrefixOf] using h2
      subst hb
      have h1 : ([58] : Bs).isPrefixOf (58 :: l) = true := by simp [List.isPrefixOf]
      rw [cut_pre h1 (Or.inl (by simp))]
      cases l with
      | nil => simp [List.isPrefixOf] at ht
      | cons c l => have : 32 = c := by simpa [List.isPrefixOf] using ht
                    subst this; rfl
    | false =>
      rw [cut_cons h2] at h hn ⊢
      simp only [List.mem_cons, not_or] at hn
      have h1 : ([58] : Bs).isPrefixOf (b :: l) = false := by
        simp only [List.isPrefixOf, Bool.and_true]
        exact beq_eq_false_iff_ne.2 hn.1
      rw [cut_cons h1, ih h hn.2]
theorem one_to_two : ∀ (s v : Bs), (Lib.cut s [58]).2.2 = true → (Lib.cut s [58]).2.1 = 32 :: v → Lib.cut s [58, 32] = ((Lib.cut s [58]).1, v, true) := by
  intro s
  induction s with
  | nil => intro v h; rw [cut_nil (by simp)] at h; cases h
  | cons b l ih =>
    intro v h hv
    cases h1 : ([58] : Bs).isPrefixOf (b :: l) with
    | true =>
      rw [cut_pre h1 (Or.inl (by simp))] at hv ⊢
      have hb : 58 = b := by simpa [List.isPrefixOf] using h1
      subst hb
      have hl : l = 32 :: v := by simpa using hv
      subst hl
      rw [cut_pre (by simp [List.isPrefixOf]) (Or.inl (by simp))]; rfl
    | false =>
      rw [cut_cons h1] at h hv ⊢
      have hb : (58 : UInt8) ≠ b := by
        simp only [List.isPrefixOf, Bool.and_true] at h1
        exact beq_eq_false_iff_ne.1 h1
      have h2 : ([58, 32] : Bs).isPrefixOf (b :: l) = false := by
        simp only [List.isPrefixOf]
        rw [beq_eq_false_iff_ne.2 hb]; rfl
      rw [cut_cons h2, ih v h hv]
theorem hname_no {n : Bs} (h : hname n = true) : (58 : UInt8) ∉ n := by
  intro hm
  unfold hname at h
  rw [Bool.and_eq_true, List.all_eq_true] at h
  have := h.1 58 hm
  revert this; decide
theorem header_line (l : Bs) : headerOf l = lineOf l := by
  unfold headerOf lineOf
  by_cases h : (Lib.cut l [58, 32]).2.2 = true ∧ hname (Lib.cut l [58, 32]).1 = true ∧ (Lib.cut l [58, 32]).2.1.all showB = true
  · rw [if_pos h]
    have e := two_to_one l h.1 (hname_no h.2.1)
    rw [e]
    have : showB 32 = true := by decide
    simp [h, this]
  · rw [if_neg h]
    by_cases k : (Lib.cut l [58]).2.2 = true ∧ hname (Lib.cut l [58]).1 = true ∧ (Lib.cut l [58]).2.1.head? = some 32 ∧ (Lib.cut l [58]).2.1.all showB = true
    · exfalso
      obtain ⟨k1, k2, k3, k4⟩ := k
      cases hv : (Lib.cut l [58]).2.1 with
      | nil => rw [hv] at k3; cases k3
      | cons c v =>
        rw [hv] at k3 k4
        have hc : c = 32 := by simpa using k3
        subst hc
        have e := one_to_two l v k1 hv
        apply h
        rw [e]
        refine ⟨rfl, k2, ?_⟩
        rw [List.all_cons, Bool.and_eq_true] at k4
        exact k4.2
    · rw [if_neg k]

/-- Header lines and the empty line behind them: k more headers, and then no more. -/
def headersFrom : Nat → Ps → Bs → Option (Ps × Bs)
  | k, l, rest =>
    if (Lib.cut rest [10]).2.2 = false then none
    else if (Lib.cut rest [10]).1 = [] then some (l, (Lib.cut rest [10]).2.1)
    else match k with
      | 0 => none
      | k + 1 => match headerOf (Lib.cut rest [10]).1 with
        | none => none
        | some p => match addP l p with
          | none => none
          | some l' => headersFrom k l' (Lib.cut rest [10]).2.1

def isMethod (m : Bs) : Bool := m == [71, 69, 84] || m == [80, 85, 84] || m == [68, 69, 76, 69, 84, 69]
structure First where
  method : Bs := []
  path : Bs := []
  query : Ps := []
def firstOf (top : Bs) : Option First :=
  if (Lib.cut top [32]).2.2 = true ∧ isMethod (Lib.cut top [32]).1 = true ∧ ([47] : Bs).isPrefixOf (Lib.cut (Lib.cut top [32]).2.1 [63]).1 = true then
    match dec true (Lib.cut (Lib.cut top [32]).2.1 [63]).1 with
    | none => none
    | some p => if (Lib.cut (Lib.cut top [32]).2.1 [63]).2.2 = true then (queryOf (Lib.cut (Lib.cut top [32]).2.1 [63]).2.1).map (fun q => { method := (Lib.cut top [32]).1, path := p, query := q })
      else some { method := (Lib.cut top [32]).1, path := p }
  else none

structure Req extends First where
  headers : Ps := []
  body : Bs := []
def lenOk (hs : Ps) (body : Bs) : Bool := match findP hs [108, 101, 110, 103, 116, 104] with
  | none => body.isEmpty
  | some v => v == Lib.itoa (body.length : Int)
def reqOf (s : Bs) : Option Req :=
  if (Lib.cut s [10]).2.2 = true then
    match firstOf (Lib.cut s [10]).1 with
    | none => none
    | some f => match headersFrom 12 [] (Lib.cut s [10]).2.1 with
      | none => none
      | some (hs, body) => if lenOk hs body = true then some { toFirst := f, headers := hs, body := body } else none
  else none
/-- What a text's parsing answers: the error's number, the request. -/
def parseOf (s : Bs) : Int × Req :=
  if 2000 < s.length then (1, {}) else match reqOf s with
    | none => (2, {})
    | some r => if 300 < r.body.length then (1, {}) else (0, r)
end Go.Proofs.YtaeabbmekmjcaaaGreatDoor.R
