/-
  THE PLAIN MATHEMATICS OF REQUESTS: cutting, splitting, pairs, header lines, the body's length; what a text says as a request. It speaks of no program.
  THE LEAVES OF REQUESTS: small functions of the program and of the document's answer.
  LISTS OF PAIRS: rows of pairs of texts in memory; what is found in them.
  PAIRS THAT ARE PUT INTO A LIST; codes that are decoded or given up.
-/
import Derived.Test.YtinnliapfdpfpaaGreatDoorCBase
import Derived.Lib.Split
import Derived.Lib.ItoaNum
import Derived.Test.YtinnliapfdpfpaaGreatDoorShelf
import Derived.Test.YtinnliapfdpfpaaGreatDoorCDec
import Derived.BigRegion
namespace Go.Proofs.YtinnliapfdpfpaaGreatDoor.R
open Go.Proofs.YtinnliapfdpfpaaGreatDoor.C (dec)

abbrev Bs := List UInt8
abbrev Ps := List (Bs × Bs)

/-! ### Cutting -/
theorem index_neg {s sep : Bs} (h : ¬ 0 ≤ Lib.index s sep) : Lib.index s sep = -1 := by
  have := Lib.index_ge s sep; omega
theorem cut_miss {s sep : Bs} (h : Lib.index s sep = -1) : Lib.cut s sep = (s, [], false) := by
  unfold Lib.cut; rw [h]; rfl
theorem cut_pre {s sep : Bs} (h : sep.isPrefixOf s = true) (hs : s ≠ [] ∨ sep = []) : Lib.cut s sep = ([], s.drop sep.length, true) := by
  have e : Lib.index s sep = 0 := by
    cases s with
    | nil => rcases hs with hs | hs
             · exact absurd rfl hs
             · subst hs; rfl
    | cons b l => unfold Lib.index; rw [if_pos h]
  unfold Lib.cut; rw [e]; simp
theorem cut_cons {b : UInt8} {l sep : Bs} (h : sep.isPrefixOf (b :: l) = false) : Lib.cut (b :: l) sep = (b :: (Lib.cut l sep).1, (Lib.cut l sep).2.1, (Lib.cut l sep).2.2) := by
  have e : Lib.index (b :: l) sep = if Lib.index l sep == -1 then -1 else Lib.index l sep + 1 := by
    rw [Lib.index]; rw [h]; simp
  by_cases hl : 0 ≤ Lib.index l sep
  · have hne : (Lib.index l sep == -1) = false := by rw [beq_eq_false_iff_ne]; omega
    rw [hne] at e
    simp only [Bool.false_eq_true, if_false] at e
    have e1 : (Lib.index l sep + 1).toNat = (Lib.index l sep).toNat + 1 := by omega
    have e2 : (Lib.index l sep).toNat + 1 + sep.length = ((Lib.index l sep).toNat + sep.length) + 1 := by omega
    unfold Lib.cut
    rw [e, if_pos (by omega), if_pos hl, e1, e2]
    simp
  · have hm := index_neg hl
    rw [cut_miss hm]
    rw [hm] at e
    rw [cut_miss (by rw [e]; rfl)]
theorem cut_nil {sep : Bs} (h : sep ≠ []) : Lib.cut [] sep = ([], [], false) := by
  apply cut_miss
  cases sep with
  | nil => exact absurd rfl h
  | cons a t => rfl

theorem pre_nil (sep : Bs) : sep.isPrefixOf ([] : Bs) = sep.isEmpty := by cases sep <;> rfl

theorem cut_len (sep : Bs) : ∀ s : Bs, (Lib.cut s sep).1.length + (Lib.cut s sep).2.1.length + (if (Lib.cut s sep).2.2 then sep.length else 0) = s.length := by
  intro s
  induction s with
  | nil =>
    cases sep with
    | nil => rfl
    | cons a t => rw [cut_nil (by simp)]; rfl
  | cons b l ih =>
    cases h : sep.isPrefixOf (b :: l) with
    | true =>
      rw [cut_pre h (Or.inl (by simp))]
      have hle : sep.length ≤ (b :: l).length := (List.isPrefixOf_iff_prefix.1 h).length_le
      simp only [List.length_nil, List.length_drop, if_true]; omega
    | false => rw [cut_cons h]; simp only [List.length_cons]; omega
theorem cut_le (s sep : Bs) : (Lib.cut s sep).1.length ≤ s.length ∧ (Lib.cut s sep).2.1.length ≤ s.length := by
  have := cut_len sep s; omega

/-- The parts of a text between all places of another. -/
theorem countFrom_more (sep : Bs) (hs : sep ≠ []) : ∀ (n m : Nat) (s : Bs), s.length < n → s.length < m → Lib.countFrom sep n s = Lib.countFrom sep m s := by
  intro n
  induction n with
  | zero => intro m s h; omega
  | succ n ih =>
    intro m s hn hm
    obtain ⟨m, rfl⟩ : ∃ k, m = k + 1 := ⟨m - 1, by omega⟩
    simp only [Lib.countFrom]
    by_cases h : Lib.index s sep == -1
    · simp only [h, if_true]
    · simp only [h, Bool.false_eq_true, if_false]
      have hp : 0 < sep.length := List.length_pos_iff.2 hs
      by_cases h0 : s = []
      · subst h0
        exfalso; apply h
        cases sep with
        | nil => exact absurd rfl hs
        | cons a t => rfl
      · have : 0 < s.length := List.length_pos_iff.2 h0
        have hd : (s.drop ((Lib.index s sep).toNat + sep.length)).length < s.length := by rw [List.length_drop]; omega
        rw [ih m _ (by omega) (by omega)]
theorem split_rec (s sep : Bs) (hs : sep ≠ []) : Lib.split s sep = if (Lib.cut s sep).2.2 then (Lib.cut s sep).1 :: Lib.split (Lib.cut s sep).2.1 sep else [s] := by
  by_cases h : 0 ≤ Lib.index s sep
  · have hne : (Lib.index s sep == -1) = false := by rw [beq_eq_false_iff_ne]; omega
    have hp : 0 < sep.length := List.length_pos_iff.2 hs
    have h0 : s ≠ [] := by
      intro h0; subst h0
      cases sep with
      | nil => exact absurd rfl hs
      | cons a t => simp [Lib.index] at h
    have hsl : 0 < s.length := List.length_pos_iff.2 h0
    have hd : (s.drop ((Lib.index s sep).toNat + sep.length)).length < s.length := by rw [List.length_drop]; omega
    have ec : Lib.cut s sep = (s.take (Lib.index s sep).toNat, s.drop ((Lib.index s sep).toNat + sep.length), true) := by unfold Lib.cut; rw [if_pos h]
    have e1 : Lib.count s sep = Lib.count (s.drop ((Lib.index s sep).toNat + sep.length)) sep + 1 := by
      unfold Lib.count
      rw [show s.length + 1 = (s.length) + 1 from rfl, Lib.countFrom, hne]
      simp only [Bool.false_eq_true, if_false]
      rw [countFrom_more sep hs s.length ((s.drop ((Lib.index s sep).toNat + sep.length)).length + 1) _ (by omega) (by omega)]
      omega
    rw [ec]
    simp only [if_true]
    unfold Lib.split
    rw [e1, Lib.splitK, hne]
    simp
  · have hm := index_neg h
    rw [cut_miss hm]
    simp only [Bool.false_eq_true, if_false]
    unfold Lib.split Lib.count
    rw [Lib.countFrom, hm]
    rfl
theorem splitK_len (sep : Bs) : ∀ (k : Nat) (s : Bs), (Lib.splitK sep 0 k s).length ≤ k + 1
  | 0, _ => Nat.le_refl _
  | k + 1, s => by
    unfold Lib.splitK
    split
    · simp
    · have := splitK_len sep k (s.drop ((Lib.index s sep).toNat + sep.length))
      simp only [List.length_cons]; omega
theorem split_len1 (sep : Bs) (hs : sep ≠ []) : ∀ (n : Nat) (s : Bs), s.length ≤ n → (Lib.split s sep).length ≤ s.length + 1 ∧ ∀ t ∈ Lib.split s sep, t.length ≤ s.length := by
  have hp : 0 < sep.length := List.length_pos_iff.2 hs
  intro n
  induction n with
  | zero =>
    intro s hn
    have e := split_rec s sep hs
    have hc := cut_len sep s
    cases hf : (Lib.cut s sep).2.2 with
    | true => rw [hf] at hc; simp only [if_true] at hc; omega
    | false => rw [hf] at e; simp only [Bool.false_eq_true, if_false] at e; rw [e]; simp
  | succ n ih =>
    intro s hn
    have e := split_rec s sep hs
    have hc := cut_len sep s
    cases hf : (Lib.cut s sep).2.2 with
    | true =>
      rw [hf] at hc e
      simp only [if_true] at hc e
      obtain ⟨i1, i2⟩ := ih (Lib.cut s sep).2.1 (by omega)
      rw [e]
      refine ⟨by simp only [List.length_cons]; omega, ?_⟩
      intro t ht
      rcases List.mem_cons.1 ht with rfl | ht
      · omega
      · have := i2 t ht; omega
    | false => rw [hf] at e; simp only [Bool.false_eq_true, if_false] at e; rw [e]; simp
theorem split_len (s sep : Bs) (hs : sep ≠ []) : (Lib.split s sep).length ≤ s.length + 1 := (split_len1 sep hs s.length s (Nat.le_refl _)).1
theorem split_mem {s sep t : Bs} (hs : sep ≠ []) (h : t ∈ Lib.split s sep) : t.length ≤ s.length := (split_len1 sep hs s.length s (Nat.le_refl _)).2 t h

/-! ### Pairs -/
def findP : Ps → Bs → Option Bs
  | [], _ => none
  | p :: r, k => if p.1 = k then some p.2 else findP r k
theorem findP_snoc (l : Ps) (p : Bs × Bs) (k : Bs) : findP (l ++ [p]) k = match findP l k with
    | some v => some v
    | none => if p.1 = k then some p.2 else none := by
  induction l with
  | nil => simp [findP]
  | cons q l ih => simp only [List.cons_append, findP]; split <;> simp_all

def pairOf (t : Bs) : Option (Bs × Bs) :=
  match dec false (Lib.cut t [61]).1, dec false (Lib.cut t [61]).2.1 with
  | some n, some v => if n = [] then none else some (n, v)
  | _, _ => none
def addP (l : Ps) (p : Bs × Bs) : Option Ps := if findP l p.1 = none then some (l ++ [p]) else none
def queryFrom : Ps → List Bs → Option Ps
  | l, [] => some l
  | l, t :: r => match pairOf t with
    | none => none
    | some p => match addP l p with
      | none => none
      | some l' => queryFrom l' r
def queryOf (q : Bs) : Option Ps := queryFrom [] (Lib.split q [38])

/-! ### Header lines -/
def nameB (b : UInt8) : Bool := decide (97 ≤ b.toNat ∧ b.toNat ≤ 122) || decide (48 ≤ b.toNat ∧ b.toNat ≤ 57) || b.toNat == 45
def showB (b : UInt8) : Bool := decide (32 ≤ b.toNat ∧ b.toNat ≤ 126)
def hname (n : Bs) : Bool := n.all nameB && decide (1 ≤ n.length ∧ n.length ≤ 20)
def headerOf (l : Bs) : Option (Bs × Bs) :=
  if (Lib.cut l [58, 32]).2.2 = true ∧ hname (Lib.cut l [58, 32]).1 = true ∧ (Lib.cut l [58, 32]).2.1.all showB = true then some ((Lib.cut l [58, 32]).1, (Lib.cut l [58, 32]).2.1) else none
/-- The same, read otherwise: at the first colon. -/
def lineOf (l : Bs) : Option (Bs × Bs) :=
  if (Lib.cut l [58]).2.2 = true ∧ hname (Lib.cut l [58]).1 = true ∧ (Lib.cut l [58]).2.1.head? = some 32 ∧ (Lib.cut l [58]).2.1.all showB = true then some ((Lib.cut l [58]).1, (Lib.cut l [58]).2.1.tail) else none

theorem two_to_one : ∀ s : Bs, (Lib.cut s [58, 32]).2.2 = true → (58 : UInt8) ∉ (Lib.cut s [58, 32]).1 → Lib.cut s [58] = ((Lib.cut s [58, 32]).1, 32 :: (Lib.cut s [58, 32]).2.1, true) := by
  intro s
  induction s with
  | nil => intro h; rw [cut_nil (by simp)] at h; cases h
  | cons b l ih =>
    intro h hn
    cases h2 : ([58, 32] : Bs).isPrefixOf (b :: l) with
    | true =>
      rw [cut_pre h2 (Or.inl (by simp))]
      obtain ⟨hb, ht⟩ : 58 = b ∧ ([32] : Bs).isPrefixOf l = true := by simpa [List.isPrefixOf] using h2
      subst hb
      have h1 : ([58] : Bs).isPrefixOf (58 :: l) = true := by simp [List.isPrefixOf]
      rw [cut_pre h1 (Or.inl (by simp))]
      cases l with
      | nil => simp [List.isPrefixOf] at ht
      | cons c l => have : 32 = c := by simpa [List.isPrefixOf] using ht
                    subst this; rfl
    | false =>
      rw [cut_cons h2] at h hn ⊢
      simp only [List.mem_cons, not_or] at hn
      have h1 : ([58] : Bs).isPrefixOf (b :: l) = false := by
        simp only [List.isPrefixOf, Bool.and_true]
        exact beq_eq_false_iff_ne.2 hn.1
      rw [cut_cons h1, ih h hn.2]
theorem one_to_two : ∀ (s v : Bs), (Lib.cut s [58]).2.2 = true → (Lib.cut s [58]).2.1 = 32 :: v → Lib.cut s [58, 32] = ((Lib.cut s [58]).1, v, true) := by
  intro s
  induction s with
  | nil => intro v h; rw [cut_nil (by simp)] at h; cases h
  | cons b l ih =>
    intro v h hv
    cases h1 : ([58] : Bs).isPrefixOf (b :: l) with
    | true =>
      rw [cut_pre h1 (Or.inl (by simp))] at hv ⊢
      have hb : 58 = b := by simpa [List.isPrefixOf] using h1
      subst hb
      have hl : l = 32 :: v := by simpa using hv
      subst hl
      rw [cut_pre (by simp [List.isPrefixOf]) (Or.inl (by simp))]; rfl
    | false =>
      rw [cut_cons h1] at h hv ⊢
      have hb : (58 : UInt8) ≠ b := by
        simp only [List.isPrefixOf, Bool.and_true] at h1
        exact beq_eq_false_iff_ne.1 h1
      have h2 : ([58, 32] : Bs).isPrefixOf (b :: l) = false := by
        simp only [List.isPrefixOf]
        rw [beq_eq_false_iff_ne.2 hb]; rfl
      rw [cut_cons h2, ih v h hv]
theorem hname_no {n : Bs} (h : hname n = true) : (58 : UInt8) ∉ n := by
  intro hm
  unfold hname at h
  rw [Bool.and_eq_true, List.all_eq_true] at h
  have := h.1 58 hm
  revert this; decide
theorem header_line (l : Bs) : headerOf l = lineOf l := by
  unfold headerOf lineOf
  by_cases h : (Lib.cut l [58, 32]).2.2 = true ∧ hname (Lib.cut l [58, 32]).1 = true ∧ (Lib.cut l [58, 32]).2.1.all showB = true
  · rw [if_pos h]
    have e := two_to_one l h.1 (hname_no h.2.1)
    rw [e]
    have : showB 32 = true := by decide
    simp [h, this]
  · rw [if_neg h]
    by_cases k : (Lib.cut l [58]).2.2 = true ∧ hname (Lib.cut l [58]).1 = true ∧ (Lib.cut l [58]).2.1.head? = some 32 ∧ (Lib.cut l [58]).2.1.all showB = true
    · exfalso
      obtain ⟨k1, k2, k3, k4⟩ := k
      cases hv : (Lib.cut l [58]).2.1 with
      | nil => rw [hv] at k3; cases k3
      | cons c v =>
        rw [hv] at k3 k4
        have hc : c = 32 := by simpa using k3
        subst hc
        have e := one_to_two l v k1 hv
        apply h
        rw [e]
        refine ⟨rfl, k2, ?_⟩
        rw [List.all_cons, Bool.and_eq_true] at k4
        exact k4.2
    · rw [if_neg k]

/-- Header lines and the empty line behind them: k more headers, and then no more. -/
def headersFrom : Nat → Ps → Bs → Option (Ps × Bs)
  | k, l, rest =>
    if (Lib.cut rest [10]).2.2 = false then none
    else if (Lib.cut rest [10]).1 = [] then some (l, (Lib.cut rest [10]).2.1)
    else match k with
      | 0 => none
      | k + 1 => match headerOf (Lib.cut rest [10]).1 with
        | none => none
        | some p => match addP l p with
          | none => none
          | some l' => headersFrom k l' (Lib.cut rest [10]).2.1

def isMethod (m : Bs) : Bool := m == [71, 69, 84] || m == [80, 85, 84] || m == [68, 69, 76, 69, 84, 69]
structure First where
  method : Bs := []
  path : Bs := []
  query : Ps := []
def firstOf (top : Bs) : Option First :=
  if (Lib.cut top [32]).2.2 = true ∧ isMethod (Lib.cut top [32]).1 = true ∧ ([47] : Bs).isPrefixOf (Lib.cut (Lib.cut top [32]).2.1 [63]).1 = true then
    match dec true (Lib.cut (Lib.cut top [32]).2.1 [63]).1 with
    | none => none
    | some p => if (Lib.cut (Lib.cut top [32]).2.1 [63]).2.2 = true then (queryOf (Lib.cut (Lib.cut top [32]).2.1 [63]).2.1).map (fun q => { method := (Lib.cut top [32]).1, path := p, query := q })
      else some { method := (Lib.cut top [32]).1, path := p }
  else none

structure Req extends First where
  headers : Ps := []
  body : Bs := []
def lenOk (hs : Ps) (body : Bs) : Bool := match findP hs [108, 101, 110, 103, 116, 104] with
  | none => body.isEmpty
  | some v => v == Lib.itoa (body.length : Int)
def reqOf (s : Bs) : Option Req :=
  if (Lib.cut s [10]).2.2 = true then
    match firstOf (Lib.cut s [10]).1 with
    | none => none
    | some f => match headersFrom 12 [] (Lib.cut s [10]).2.1 with
      | none => none
      | some (hs, body) => if lenOk hs body = true then some { toFirst := f, headers := hs, body := body } else none
  else none
/-- What a text's parsing answers: the error's number, the request. -/
def parseOf (s : Bs) : Int × Req :=
  if 2000 < s.length then (1, {}) else match reqOf s with
    | none => (2, {})
    | some r => if 300 < r.body.length then (1, {}) else (0, r)
end Go.Proofs.YtinnliapfdpfpaaGreatDoor.R
namespace Go.Proofs.YtinnliapfdpfpaaGreatDoor.R
open Go.RowKit
open Go.Proofs.YtinnliapfdpfpaaGreatDoor.C (dec ret_bool ret_int hasB hasB_snoc in_any take_snoc)

abbrev str (l : Bs) : Value := .string ⟨l.toArray⟩
theorem ba_eq {a b : Bs} : ((⟨a.toArray⟩ : ByteArray) = ⟨b.toArray⟩) ↔ a = b := by
  constructor
  · intro h; have := congrArg (fun x => x.data.toList) h; simpa using this
  · intro h; rw [h]
/-- What the reader of requests gives up with. -/
def noR : List PanicEntry := [{ v := .iface 284 (.agg #[]), recovered := false }]

set_option maxHeartbeats 400000 in
theorem need_ok (w : World) : Calls Tryz.prog 135 #[.bool true] w fun e w' => e = .returned (.tuple #[]) ∧ w' = w := by
  go_enter Tryz.func135, Tryz.ntmps135
  go_wp2
  go_end0
  exact ⟨rfl, rfl⟩
set_option maxHeartbeats 400000 in
theorem need_no (w : World) : Calls Tryz.prog 135 #[.bool false] w fun e w' => e = .panicked noR ∧ w' = w := by
  go_enter Tryz.func135, Tryz.ntmps135
  go_wp2
  exact ⟨rfl, rfl, rfl⟩
set_option maxHeartbeats 400000 in
theorem isMethod_any (l : Bs) (w : World) : Calls Tryz.prog 136 #[str l] w fun e w' => e = .returned (.bool (isMethod l)) ∧ w' = w := by
  go_enter Tryz.func136, Tryz.ntmps136
  go_wp2
  all_goals (go_ret; exact ⟨ret_bool (by simp_all [isMethod]), rfl⟩)
theorem take_snocL {l : Bs} {k : Nat} (h : k < l.length) : l.take (k + 1) = l.take k ++ [l[k]] := List.take_succ_eq_append_getElem h
theorem all_snoc {f : UInt8 → Bool} {l : Bs} {k : Nat} (h : k < l.length) : (l.take (k + 1)).all f = ((l.take k).all f && f l[k]) := by rw [take_snocL h, List.all_append]; simp
theorem all_not {f : UInt8 → Bool} {l : Bs} {k : Nat} (h : k < l.length) (hf : f l[k] = false) : l.all f = false := by
  rw [List.all_eq_false]; exact ⟨l[k], List.getElem_mem h, by simp [hf]⟩

set_option maxHeartbeats 400000 in
theorem isHeaderValue_any (l : Bs) (w : World) (hl : l.length ≤ 1000000000) : Calls Tryz.prog 197 #[str l] w fun e w' => e = .returned (.bool (l.all showB)) ∧ w' = w := by
  go_enter Tryz.func197, Tryz.ntmps197
  go_wp2
  go_loop [6] (fun i => ∃ k : Nat, k ≤ l.length ∧ i = .int .i64 k ∧ (l.take k).all showB = true) (fun i => l.length - (intOf i).toNat)
  case atStart => exact ⟨0, Nat.zero_le _, rfl, by simp⟩
  case round =>
    obtain ⟨k, hk, rfl, hall⟩ := hrel
    have HA : Hid ((l.take k).all showB = true) := hall
    clear hall
    by_cases hlt : k < l.length
    · have HS : Hid ((l.take (k + 1)).all showB = ((l.take k).all showB && showB l[k])) := all_snoc hlt
      have HN : Hid (showB l[k] = false → l.all showB = false) := all_not hlt
      obtain ⟨c, hc⟩ : ∃ c, l[k] = c := ⟨_, rfl⟩
      have ix : ∀ h, (⟨l.toArray⟩ : ByteArray)[k]'h = c := fun _ => hc
      rw [hc] at HS HN
      clear hc
      have hb := c.toNat_lt
      go_wp2
      · go_ret
        exact ⟨ret_bool (HN.out (by simp [showB]; omega)).symm, rfl⟩
      · go_round
        case rel => exact ⟨k + 1, by omega, by go_num, by rw [HS.out, HA.out]; simp [showB]; omega⟩
        case measure => simp [intOf]; omega
      · go_ret
        exact ⟨ret_bool (HN.out (by simp [showB]; omega)).symm, rfl⟩
    · go_wp2
      go_ret
      exact ⟨ret_bool (by rw [← HA.out, List.take_of_length_le (by omega)]), rfl⟩

set_option maxHeartbeats 400000 in
theorem isHeaderName_any (l : Bs) (w : World) (hl : l.length ≤ 1000000000) : Calls Tryz.prog 196 #[str l] w fun e w' => e = .returned (.bool (hname l)) ∧ w' = w := by
  go_enter Tryz.func196, Tryz.ntmps196
  go_wp2
  go_loop [7] (fun i => ∃ k : Nat, k ≤ l.length ∧ i = .int .i64 k ∧ (l.take k).all nameB = true) (fun i => l.length - (intOf i).toNat)
  case atStart => exact ⟨0, Nat.zero_le _, rfl, by simp⟩
  case round =>
    obtain ⟨k, hk, rfl, hall⟩ := hrel
    have HA : Hid ((l.take k).all nameB = true) := hall
    clear hall
    by_cases hlt : k < l.length
    · have HS : Hid ((l.take (k + 1)).all nameB = ((l.take k).all nameB && nameB l[k])) := all_snoc hlt
      have HN : Hid (nameB l[k] = false → l.all nameB = false) := all_not hlt
      obtain ⟨c, hc⟩ : ∃ c, l[k] = c := ⟨_, rfl⟩
      have ix : ∀ h, (⟨l.toArray⟩ : ByteArray)[k]'h = c := fun _ => hc
      rw [hc] at HS HN
      clear hc
      have hb := c.toNat_lt
      rcases (by omega : (97 ≤ (c.toNat : Int) ∧ (c.toNat : Int) ≤ 122) ∨ (48 ≤ (c.toNat : Int) ∧ (c.toNat : Int) ≤ 57) ∨ (c.toNat : Int) = 45 ∨ (c.toNat : Int) < 45 ∨ (45 < (c.toNat : Int) ∧ (c.toNat : Int) < 48) ∨ (57 < (c.toNat : Int) ∧ (c.toNat : Int) < 97) ∨ 122 < (c.toNat : Int)) with ⟨h1, h2⟩ | ⟨h1, h2⟩ | h1 | h1 | ⟨h1, h2⟩ | ⟨h1, h2⟩ | h1
      · have HT : Hid (nameB c = true) := by show _ = _; simp [nameB]; omega
        go_wp2
        go_round
        case rel => exact ⟨k + 1, by omega, by go_num, by rw [HS.out, HA.out, HT.out]; rfl⟩
        case measure => simp [intOf]; omega
      · have HT : Hid (nameB c = true) := by show _ = _; simp [nameB]; omega
        go_wp2
        go_round
        case rel => exact ⟨k + 1, by omega, by go_num, by rw [HS.out, HA.out, HT.out]; rfl⟩
        case measure => simp [intOf]; omega
      · have HT : Hid (nameB c = true) := by show _ = _; simp [nameB]; omega
        go_wp2
        go_round
        case rel => exact ⟨k + 1, by omega, by go_num, by rw [HS.out, HA.out, HT.out]; rfl⟩
        case measure => simp [intOf]; omega
      all_goals
        have HT : Hid (nameB c = false) := by show _ = _; simp [nameB]; omega
        have t45 : ((c.toNat : Int) == 45) = false := by simp; omega
        try have d57 : decide ((c.toNat : Int) ≤ 57) = false := by simp; omega
        try have d122 : decide ((c.toNat : Int) ≤ 122) = false := by simp; omega
        go_wp2
        go_ret
        exact ⟨ret_bool (by rw [hname, HN.out HT.out]; rfl), rfl⟩
    · have HT : Hid (l.all nameB = true) := by have := HA.out; rwa [List.take_of_length_le (by omega)] at this
      clear HA
      by_cases h1 : 1 ≤ l.length
      · by_cases h2 : l.length ≤ 20
        · have HX : Hid (hname l = true) := by show _ = _; rw [hname, HT.out]; simp; omega
          go_wp2
          go_ret
          exact ⟨ret_bool (by rw [HX.out]; simp; omega), rfl⟩
        · have HX : Hid (hname l = false) := by show _ = _; rw [hname, HT.out]; simp; omega
          go_wp2
          go_ret
          exact ⟨ret_bool (by rw [HX.out]; simp; omega), rfl⟩
      · have HX : Hid (hname l = false) := by show _ = _; rw [hname, HT.out]; simp; omega
        go_wp2
        go_ret
        exact ⟨ret_bool HX.out.symm, rfl⟩
end Go.Proofs.YtinnliapfdpfpaaGreatDoor.R
namespace Go.Proofs.YtinnliapfdpfpaaGreatDoor.R
open Go.RowKit
open Go.Proofs.YtinnliapfdpfpaaGreatDoor.C (ret_bool ret_int)

def pcells (l : Ps) : List Value := l.flatMap fun p => [str p.1, str p.2]
theorem pcells_len (l : Ps) : (pcells l).length = l.length * 2 := by
  induction l with
  | nil => rfl
  | cons p l ih => simp only [pcells, List.flatMap_cons, List.length_append, List.length_cons, List.length_nil] at *; omega
theorem pcells_snoc (l : Ps) (p : Bs × Bs) : pcells (l ++ [p]) = pcells l ++ [str p.1, str p.2] := by simp [pcells]
theorem pcells_at : ∀ (l : Ps) (k : Nat) (h : k < l.length), (pcells l)[2 * k]? = some (str l[k].1) ∧ (pcells l)[2 * k + 1]? = some (str l[k].2)
  | p :: l, 0, _ => ⟨rfl, rfl⟩
  | p :: l, k + 1, h => by
    have := pcells_at l k (by simpa using h)
    exact this
/-- A row of pairs of the call's own, from block B on. -/
def prow (w : World) (B : Nat) (v : Value) (l : Ps) : Prop := w.ownsRow B 117 2 v l.length (pcells l)
/-- A row of pairs that can be read, in a block below B. -/
def phold (w : World) (B : Nat) (v : Value) (l : Ps) : Prop :=
  (v = .slice none 0 0 ∧ l = []) ∨ ∃ g cap, v = .slice (some ⟨g, 0, none⟩) l.length cap ∧ g < B ∧ ∀ k (h : k < l.length), w.cell? ⟨g, k * 2, none⟩ = some (str l[k].1) ∧ w.cell? ⟨g, k * 2 + 1, none⟩ = some (str l[k].2)
theorem prow.hold {w : World} {B : Nat} {v : Value} {l : Ps} (h : prow w B v l) : phold w w.heap.size v l := by
  have hb := World.ownsRow.lt h
  have hc := fun g hv => World.ownsRow.cells h (g := g) hv
  obtain ⟨h1, ⟨rfl, hn⟩ | ⟨g, cap, cur, rfl, _⟩⟩ := h
  · exact .inl ⟨rfl, List.eq_nil_of_length_eq_zero hn⟩
  · refine .inr ⟨g, cap, rfl, (hb g rfl).2, fun k hk => ?_⟩
    obtain ⟨e1, e2⟩ := pcells_at l k hk
    have c1 := hc g rfl (2 * k) _ e1
    have c2 := hc g rfl (2 * k + 1) _ e2
    simp only [Addr.add_lit, Nat.zero_add] at c1 c2
    rw [Nat.mul_comm] at c1 c2
    exact ⟨c1, c2⟩
theorem phold.below {w w' : World} {B : Nat} {v : Value} {l : Ps} (h : phold w B v l) (k : Below B w w') : phold w' B v l := by
  rcases h with h | ⟨g, cap, rfl, hg, hc⟩
  · exact .inl h
  · exact .inr ⟨g, cap, rfl, hg, fun j hj => ⟨(k.cell (p := ⟨g, j * 2, none⟩) hg).trans (hc j hj).1, (k.cell (p := ⟨g, j * 2 + 1, none⟩) hg).trans (hc j hj).2⟩⟩
theorem findP_take {l : Ps} {k : Nat} (h : k < l.length) (n : Bs) (hn : findP (l.take k) n = none) : findP (l.take (k + 1)) n = if l[k].1 = n then some l[k].2 else none := by
  rw [List.take_succ_eq_append_getElem h, findP_snoc, hn]
theorem findP_hit {l : Ps} {k : Nat} (n v : Bs) (h : findP (l.take k) n = some v) : findP l n = some v := by
  rw [← List.take_append_drop k l]
  generalize l.take k = a at h
  generalize l.drop k = b
  induction a with
  | nil => cases h
  | cons p a ih => simp only [List.cons_append, findP] at h ⊢; split <;> simp_all
/-- What a search answers. -/
def findEnd : Option Bs → Ending
  | some v => .returned (.tuple #[str v, .bool true])
  | none => .returned (.tuple #[str [], .bool false])
theorem findE {o : Option Bs} {v : Bs} (h : o = some v) : Ending.returned (.tuple #[str v, .bool true]) = findEnd o := by rw [h]; rfl
theorem findN {o : Option Bs} (h : o = none) : Ending.returned (.tuple #[str [], .bool false]) = findEnd o := by rw [h]; rfl

set_option maxHeartbeats 400000 in
theorem rfind_any (v : Value) (l : Ps) (n : Bs) (B : Nat) (w : World) (h : phold w B v l) (hl : l.length ≤ 1000000000) :
    Calls Tryz.prog 67 #[v, str n] w fun e w' => e = findEnd (findP l n) ∧ w' = w := by
  rcases h with ⟨rfl, rfl⟩ | ⟨g, cap, rfl, hg, hc⟩
  · go_enter Tryz.func67, Tryz.ntmps67
    go_wp2
    go_loop [6] (fun i => i = .int .i64 0) (fun _ => 0)
    case atStart => rfl
    case round =>
      subst hrel
      go_wp2
      go_ret2
      exact ⟨rfl, rfl⟩
  · go_enter Tryz.func67, Tryz.ntmps67
    go_wp2
    go_loop [6] (fun i => ∃ k : Nat, k ≤ l.length ∧ i = .int .i64 k ∧ findP (l.take k) n = none) (fun i => l.length - (intOf i).toNat)
    case atStart => exact ⟨0, Nat.zero_le _, rfl, by simp [findP]⟩
    case round =>
      obtain ⟨k, hk, rfl, hno⟩ := hrel
      have HN : Hid (findP (l.take k) n = none) := hno
      clear hno
      by_cases hlt : k < l.length
      · obtain ⟨c1, c2⟩ := hc k hlt
        have HS : Hid (findP (l.take (k + 1)) n = if l[k].1 = n then some l[k].2 else none) := findP_take hlt n HN.out
        go_wp2
        · rename_i he _
          go_ret2
          refine ⟨findE (findP_hit (k := k + 1) _ _ ?_), rfl⟩
          rw [HS.out, if_pos (eq_of_beq he)]
        · rename_i he
          go_round
          case rel => exact ⟨k + 1, by omega, by go_num, by rw [HS.out, if_neg (by simpa using he)]⟩
          case measure => simp [intOf]; omega
      · have HT : Hid (findP l n = none) := by have := HN.out; rwa [List.take_of_length_le (by omega)] at this
        go_wp2
        go_ret2
        exact ⟨findN HT.out, rfl⟩

set_option maxHeartbeats 400000 in
theorem find_any (v : Value) (l : Ps) (n : Bs) (B : Nat) (w : World) (h : phold w B v l) (hB : B ≤ w.heap.size) (hl : l.length ≤ 1000000000) :
    Calls Tryz.prog 101 #[v, str n] w fun e w' => e = findEnd (findP l n) ∧ Below w.heap.size w w' := by
  rcases h with ⟨rfl, rfl⟩ | ⟨g, cap, rfl, hg, hc⟩
  · go_enter Tryz.func101, Tryz.ntmps101
    go_wp2
    go_loop [10] (fun i => i = .int .i64 0) (fun _ => 0)
    case atStart => rfl
    case round =>
      subst hrel
      go_wp2
      go_ret2
      exact ⟨rfl, Below.refl _ _⟩
  · go_enter Tryz.func101, Tryz.ntmps101
    go_wp2
    go_loopw [10] (fun i wr => ∃ k : Nat, k ≤ l.length ∧ i = .int .i64 k ∧ findP (l.take k) n = none ∧ Below w.heap.size w wr) (fun i _ => l.length - (intOf i).toNat)
    case atStart => exact ⟨0, Nat.zero_le _, rfl, by simp [findP], Below.refl _ _⟩
    case round =>
      obtain ⟨k, hk, rfl, hno, hb⟩ := hrel
      have HN : Hid (findP (l.take k) n = none) := hno
      clear hno
      have hsz := hb.size
      by_cases hlt : k < l.length
      · obtain ⟨c1, c2⟩ := hc k hlt
        replace c1 := (hb.cell (p := ⟨g, k * 2, none⟩) (show g < w.heap.size by omega)).trans c1
        replace c2 := (hb.cell (p := ⟨g, k * 2 + 1, none⟩) (show g < w.heap.size by omega)).trans c2
        have HS : Hid (findP (l.take (k + 1)) n = if l[k].1 = n then some l[k].2 else none) := findP_take hlt n HN.out
        clear hc
        go_wp2
        · rename_i he
          go_ret2
          refine ⟨findE (findP_hit (k := k + 1) _ _ ?_), hb.alloc hsz _⟩
          rw [HS.out, if_pos (eq_of_beq he)]
        · rename_i he
          go_roundw
          case rel => exact ⟨k + 1, by omega, by go_num, by rw [HS.out, if_neg (by simpa using he)], hb.alloc hsz _⟩
          case measure => simp [intOf]; omega
      · have HT : Hid (findP l n = none) := by have := HN.out; rwa [List.take_of_length_le (by omega)] at this
        go_wp2
        go_ret2
        exact ⟨findN HT.out, hb⟩
end Go.Proofs.YtinnliapfdpfpaaGreatDoor.R
namespace Go.Proofs.YtinnliapfdpfpaaGreatDoor.R
open Go.RowKit
open Go.Proofs.YtinnliapfdpfpaaGreatDoor.C (ret_bool ret_int dec decode_any decEnd)

theorem Tryz.infoP : (Tryz.prog.info? 117).map (fun i => (i.zero, i.size, i.bytes)) = some (some (.agg #[.string ⟨#[]⟩, .string ⟨#[]⟩]), 2, 32) := by kernel_rfl
theorem prow.lt {w : World} {B : Nat} {v : Value} {l : Ps} (h : prow w B v l) : ∀ k, v.ownBlock = some k → B ≤ k := fun k hk => (World.ownsRow.lt h k hk).1
theorem prow.alloc {w : World} {B : Nat} {v : Value} {l : Ps} (h : prow w B v l) (o : Obj) : prow (w.alloc o) B v l := World.ownsRow.alloc h o
theorem prow_nil (w : World) (B : Nat) : prow w B (.slice none 0 0) [] := World.ownsRow_nil w B 117 2
theorem prow.below {w w' : World} {B : Nat} {v : Value} {l : Ps} (h : prow w B v l) (k : Below w.heap.size w w') : prow w' B v l := by
  have hb := World.ownsRow.lt h
  obtain ⟨h1, ⟨rfl, hn⟩ | ⟨g, cap, cur, rfl, h2, h3, h4⟩⟩ := h
  · exact ⟨h1, .inl ⟨rfl, hn⟩⟩
  · exact ⟨h1, .inr ⟨g, cap, cur, rfl, h2, (k.block g (hb g rfl).2).trans h3, h4⟩⟩
theorem prow.up {w : World} {B B' : Nat} {v : Value} {l : Ps} (h : prow w B v l) (hB : B' ≤ B) : prow w B' v l := by
  obtain ⟨h1, h2 | ⟨g, cap, cur, rfl, h2, h3, h4⟩⟩ := h
  · exact ⟨h1, .inl h2⟩
  · exact ⟨h1, .inr ⟨g, cap, cur, rfl, Nat.le_trans hB h2, h3, h4⟩⟩

theorem papp_law {w : World} {ops : Array Oper} {rest : List Oper} {o : Oper} {a : Act} {Q : Exit → Act → World → Prop} (hgd : o.guard = none) (s x : Operand)
    (ho : o.op = .call { callee := .builtin .append, args := #[s, x], argTypes := #[78, 78] })
    (B : Nat) (l : Ps) (p : Bs × Bs) (v : Value) (hs : a.eval s = v) (hown : prow w B v l) (H : Nat) (hx : a.eval x = .slice (some ⟨H, 0, none⟩) 1 1)
    (fr : Nat × Nat) (hblk : w.heap[H]? = some (.cells #[str p.1, str p.2] 117 fr)) (hlen : l.length ≤ 1000000000) (hB : B ≤ w.heap.size)
    (h : ∀ v' w', prow w' B v' (l ++ [p]) → Below B w w' → wpList Tryz.prog ops Q rest (a.put o.dst v') w') : wpList Tryz.prog ops Q (o :: rest) a w := by
  obtain ⟨i0, hi, hz0, hz1, hz2⟩ := info_parts Tryz.infoP
  refine wpList_append_lies _ hgd s x 78 ho B 117 i0 (.agg #[.string ⟨#[]⟩, .string ⟨#[]⟩]) 2 32 Tryz.underlying78 hi hz0 hz1 hz2 rfl (by omega) v l.length (pcells l) hs hown ⟨H, 0, none⟩ 1 1 [str p.1, str p.2] hx (by simp)
    (fun j u hu => World.news_of_block hblk j u (by simpa using hu)) (by intro u hu; simp at hu; rcases hu with rfl | rfl <;> rfl) (by omega) (by unfold maxLen; omega) (by omega) hB w.heap.size rfl ?_
  intro g cap w' h1 h2 _ _
  refine h _ w' ?_ ((Below.refl B w).grown h2 hB hown.lt)
  unfold prow
  rw [pcells_snoc, List.length_append]
  exact h1

set_option maxHeartbeats 400000 in
theorem addPair_ok (v : Value) (l : Ps) (p : Bs × Bs) (B : Nat) (w : World) (hr : prow w B v l) (hB : B ≤ w.heap.size) (hl : l.length ≤ 100000) (hn : findP l p.1 = none) :
    Calls Tryz.prog 140 #[v, .agg #[str p.1, str p.2]] w fun e w' => ∃ v', e = .returned v' ∧ prow w' B v' (l ++ [p]) ∧ Below B w w' := by
  have HN : Hid (findP l p.1 = none) := hn
  clear hn
  go_enter Tryz.func140, Tryz.ntmps140
  go_wp2_with fail
  have hr1 := hr.alloc (.cells #[str p.1, str p.2] 117)
  refine (find_any v l p.1 _ _ hr1.hold (Nat.le_refl _) (by omega)).mono ?_
  rintro e w1 ⟨rfl, hb1⟩
  rw [HN.out]
  simp only [findEnd]
  have c1 : w1.cell? ⟨w.heap.size, 0, none⟩ = some (str p.1) := (hb1.cell (p := ⟨w.heap.size, 0, none⟩) (by simp)).trans (by simp [go_sem])
  have c2 : w1.cell? ⟨w.heap.size, 1, none⟩ = some (str p.2) := (hb1.cell (p := ⟨w.heap.size, 1, none⟩) (by simp)).trans (by simp [go_sem])
  have hr2 := hr1.below hb1
  have hz := hb1.size
  have hb : Below B w w1 := ((Below.refl B w).alloc hB _).trans (hb1.mono (by simp; omega))
  clear hr hr1 hb1
  simp at hz
  go_wp2_with (first | (go_at_call 135; refine (need_ok _).mono ?_; rintro e w' ⟨rfl, rfl⟩) | (at_builtin; refine papp_law rfl _ _ rfl B l p _ rfl (hr2.alloc _) _ rfl _ (heap_alloc_new _ _) (by omega) (by simp; omega) ?_; intro v' w2 hr3 hb3))
  go_ret
  exact ⟨v', rfl, hr3, hb.trans (((Below.refl B _).alloc (by omega) _).trans hb3)⟩
set_option maxHeartbeats 400000 in
theorem addPair_no (v : Value) (l : Ps) (p : Bs × Bs) (B : Nat) (w : World) (hr : prow w B v l) (hl : l.length ≤ 100000) (hn : ¬ findP l p.1 = none) :
    Calls Tryz.prog 140 #[v, .agg #[str p.1, str p.2]] w fun e w' => e = .panicked noR ∧ Below w.heap.size w w' := by
  obtain ⟨u, hu⟩ := Option.ne_none_iff_exists'.1 hn
  have HN : Hid (findP l p.1 = some u) := hu
  clear hn hu
  go_enter Tryz.func140, Tryz.ntmps140
  go_wp2_with fail
  have hr1 := hr.alloc (.cells #[str p.1, str p.2] 117)
  refine (find_any v l p.1 _ _ hr1.hold (Nat.le_refl _) (by omega)).mono ?_
  rintro e w1 ⟨rfl, hb1⟩
  rw [HN.out]
  simp only [findEnd]
  have hb : Below w.heap.size w w1 := ((Below.refl _ w).alloc (Nat.le_refl _) _).trans (hb1.mono (by simp))
  clear hr hr1 hb1
  go_wp2_with (go_at_call 135; refine (need_no _).mono ?_; rintro e w' ⟨rfl, rfl⟩)
  exact ⟨rfl, rfl, hb⟩

/-- What decoding answers, where a code that is none is given up. -/
def decR : Option Bs → Ending
  | some t => .returned (str t)
  | none => .panicked noR
set_option maxHeartbeats 400000 in
theorem decode_r (l : Bs) (p : Bool) (w : World) (hl : l.length ≤ 1000000) :
    Calls Tryz.prog 138 #[str l, .bool p] w fun e w' => e = decR (dec p l) ∧ Below w.heap.size w w' := by
  go_enter Tryz.func138, Tryz.ntmps138
  go_wp2_with fail
  refine (decode_any ⟨l.toArray⟩ p _ (by simp [ByteArray.size]; omega)).mono ?_
  rintro e w1 ⟨rfl, hb1⟩
  rw [show dec p (⟨l.toArray⟩ : ByteArray).data.toList = dec p l from rfl]
  cases hd : dec p l with
  | none =>
    simp only [decEnd]
    go_wp2_with (go_at_call 135; refine (need_no _).mono ?_; rintro e w' ⟨rfl, rfl⟩)
    exact ⟨rfl, by rw [hd]; rfl, hb1⟩
  | some t =>
    simp only [decEnd]
    go_wp2_with (go_at_call 135; refine (need_ok _).mono ?_; rintro e w' ⟨rfl, rfl⟩)
    go_ret
    exact ⟨by rw [hd]; rfl, hb1⟩
end Go.Proofs.YtinnliapfdpfpaaGreatDoor.R
