/-
  THE PLAIN MATHEMATICS OF CANONICAL FORMS: the names of a list in rising order, what must be signed, the query's pairs sorted, the form's text. It speaks of no program.
  THE DOCUMENT'S ANSWER: small functions of canonical forms: begins, named, joined.
-/
import Derived.Test.YtinnliapfdpfpaaGreatDoorRBase
import Derived.Lib.Join
import Derived.Test.YtinnliapfdpfpaaGreatDoorSCut
namespace Go.Proofs.YtinnliapfdpfpaaGreatDoor.R
open Go.Proofs.YtinnliapfdpfpaaGreatDoor.C (enc)

/-- The names of a list. -/
def namesOf (list : Bs) : List Bs := if list = [] then [] else Lib.split list [59]
/-- The headers that a list names, from the name 'last' on (rising). -/
def pickFrom (hs : Ps) : Bs → List Bs → Option Ps
  | _, [] => some []
  | last, n :: r => match findP hs n with
    | none => none
    | some v => if n ≤ last ∨ n = [97, 117, 116, 104] then none else (pickFrom hs n r).map ((n, v) :: ·)
def must (n : Bs) : Bool := n == [104, 111, 115, 116] || n == [108, 101, 110, 103, 116, 104] || ([120, 45] : Bs).isPrefixOf n
/-- Is a header missed that must be signed? -/
def misses (hs signed : Ps) : Bool := hs.any fun p => must p.1 && (findP signed p.1).isNone
def pairText (p : Bs × Bs) : Bs := enc false p.1 ++ [61] ++ enc false p.2
def canonQ (q : Ps) : Bs := Lib.join (((q.filter fun p => !(p.1 == [120, 45, 115, 105, 103])).map pairText).mergeSort fun x y => decide (x ≤ y)) [38]
def lineText (p : Bs × Bs) : Bs := p.1 ++ [58] ++ p.2
/-- The canonical form's text, the body's hash being h. -/
def canonText (m p q : Bs) (signed : Ps) (list h : Bs) : Bs := Lib.join ([m, enc true p, q] ++ signed.map lineText ++ [[], list, h]) [10]
def told (signed : Ps) : Bs := signed.flatMap fun p => lineText p ++ [10]
theorem join_cons2 (x y : Bs) (r : List Bs) (sep : Bs) : Lib.join (x :: y :: r) sep = x ++ sep ++ Lib.join (y :: r) sep := by
  simp [Lib.join, List.intercalate]
theorem join_told (signed : Ps) (y : Bs) (r : List Bs) : Lib.join (signed.map lineText ++ (y :: r)) [10] = told signed ++ Lib.join (y :: r) [10] := by
  induction signed with
  | nil => rfl
  | cons p s ih =>
    cases s with
    | nil => simp [join_cons2, told]
    | cons p2 s =>
      simp only [List.map_cons, List.cons_append] at ih ⊢
      rw [join_cons2, ih]
      simp [told]
theorem canon_told (m p q : Bs) (signed : Ps) (list h : Bs) : canonText m p q signed list h = m ++ [10] ++ enc true p ++ [10] ++ q ++ [10] ++ told signed ++ [10] ++ list ++ [10] ++ h := by
  unfold canonText
  have e : ([m, enc true p, q] ++ signed.map lineText ++ [[], list, h]) = m :: enc true p :: q :: (signed.map lineText ++ [[], list, h]) := by simp
  rw [e]
  have e2 : ∀ x : Bs, Lib.join (x :: (signed.map lineText ++ [[], list, h])) [10] = x ++ [10] ++ Lib.join (signed.map lineText ++ [[], list, h]) [10] := by
    intro x
    cases signed with
    | nil => exact join_cons2 _ _ _ _
    | cons p s => exact join_cons2 _ _ _ _
  rw [join_cons2, join_cons2, e2, join_told, join_cons2, join_cons2]
  simp [Lib.join_one]

/-! ### Sorting, each put in its place -/
def insP (x : Bs) (out : List Bs) : List Bs := out.takeWhile (fun y => decide (y ≤ x)) ++ x :: out.dropWhile (fun y => decide (y ≤ x))
def sortL (l : List Bs) : List Bs := l.foldl (fun o x => insP x o) []
theorem insP_perm (x : Bs) (out : List Bs) : (insP x out).Perm (x :: out) := by
  unfold insP
  refine List.perm_middle.trans ?_
  rw [List.takeWhile_append_dropWhile]
theorem insP_cons_le {x y : Bs} {out : List Bs} (h : y ≤ x) : insP x (y :: out) = y :: insP x out := by
  unfold insP; simp [h]
theorem insP_cons_gt {x y : Bs} {out : List Bs} (h : ¬ y ≤ x) : insP x (y :: out) = x :: y :: out := by
  unfold insP; simp [h]
theorem insP_sorted (x : Bs) : ∀ out : List Bs, out.Pairwise (· ≤ ·) → (insP x out).Pairwise (· ≤ ·) := by
  intro out
  induction out with
  | nil => intro _; simp [insP]
  | cons y out ih =>
    intro h
    rw [List.pairwise_cons] at h
    by_cases hy : y ≤ x
    · rw [insP_cons_le hy, List.pairwise_cons]
      refine ⟨fun z hz => ?_, ih h.2⟩
      rcases List.mem_cons.1 ((insP_perm x out).mem_iff.1 hz) with rfl | hz
      · exact hy
      · exact h.1 z hz
    · rw [insP_cons_gt hy, List.pairwise_cons, List.pairwise_cons]
      have hxy : x ≤ y := (List.le_total x y).resolve_right hy
      refine ⟨fun z hz => ?_, h.1, h.2⟩
      rcases List.mem_cons.1 hz with rfl | hz
      · exact hxy
      · exact List.le_trans hxy (h.1 z hz)
theorem foldl_ins (l : List Bs) : ∀ out : List Bs, out.Pairwise (· ≤ ·) → (l.foldl (fun o x => insP x o) out).Pairwise (· ≤ ·) ∧ (l.foldl (fun o x => insP x o) out).Perm (out ++ l) := by
  induction l with
  | nil => intro out h; exact ⟨h, by simp⟩
  | cons x l ih =>
    intro out h
    obtain ⟨h1, h2⟩ := ih (insP x out) (insP_sorted x out h)
    refine ⟨h1, h2.trans ?_⟩
    exact ((insP_perm x out).append_right l).trans (by simpa using List.perm_middle.symm)
theorem sortL_eq (l : List Bs) : sortL l = l.mergeSort fun x y => decide (x ≤ y) := by
  obtain ⟨h1, h2⟩ := foldl_ins l [] List.Pairwise.nil
  refine List.Perm.eq_of_pairwise (le := fun a b => decide (a ≤ b) = true) (fun a b _ _ h1 h2 => List.le_antisymm (of_decide_eq_true h1) (of_decide_eq_true h2)) (h1.imp (fun h => decide_eq_true h))
    (List.pairwise_mergeSort (le := fun x y : Bs => decide (x ≤ y)) (fun a b c h k => decide_eq_true (List.le_trans (of_decide_eq_true h) (of_decide_eq_true k))) (fun a b => by
      rcases List.le_total a b with h | h <;> simp [h]) l) ?_
  have h3 : (sortL l).Perm l := by simpa [sortL] using h2
  exact h3.trans (List.mergeSort_perm l _).symm

/-! ### The list of names, read otherwise -/
def pickRef (hs : Ps) : Option Bs → List Bs → Option Ps
  | _, [] => some []
  | last, n :: r => match findP hs n with
    | none => none
    | some v => if n = [97, 117, 116, 104] ∨ (∃ l, last = some l ∧ n ≤ l) then none else (pickRef hs (some n) r).map ((n, v) :: ·)
theorem le_nil {n : Bs} : n ≤ [] ↔ n = [] := by
  cases n with
  | nil => simp
  | cons a l => simp
theorem pick_some (hs : Ps) : ∀ (r : List Bs) (l : Bs), pickRef hs (some l) r = pickFrom hs l r := by
  intro r
  induction r with
  | nil => intro l; rfl
  | cons n r ih =>
    intro l
    unfold pickRef pickFrom
    cases findP hs n with
    | none => rfl
    | some v =>
      simp only [Option.some.injEq, exists_eq_left', ih]
      by_cases h : n ≤ l
      · simp [h]
      · by_cases k : n = [97, 117, 116, 104]
        · simp [k]
        · simp [h, k]
theorem pick_none (hs : Ps) (hne : ∀ n v, findP hs n = some v → n ≠ []) (r : List Bs) : pickRef hs none r = pickFrom hs [] r := by
  cases r with
  | nil => rfl
  | cons n r =>
    unfold pickRef pickFrom
    cases hf : findP hs n with
    | none => rfl
    | some v =>
      have h0 : ¬ n ≤ [] := fun h => hne n v hf (le_nil.1 h)
      simp only [pick_some, h0, false_or]
      by_cases k : n = [97, 117, 116, 104]
      · simp [k]
      · simp [k]
theorem pick_names (hs : Ps) : ∀ (r : List Bs) (l : Bs) (s : Ps), pickFrom hs l r = some s → s.map (·.1) = r := by
  intro r
  induction r with
  | nil => intro l s h; simp [pickFrom] at h; subst h; rfl
  | cons n r ih =>
    intro l s h
    unfold pickFrom at h
    split at h
    · cases h
    · split at h
      · cases h
      · rw [Option.map_eq_some_iff] at h
        obtain ⟨t, ht, rfl⟩ := h
        simp [ih n t ht]
theorem findP_names (s : Ps) (n : Bs) : (findP s n).isNone = !(s.map (·.1)).contains n := by
  induction s with
  | nil => rfl
  | cons p s ih =>
    unfold findP
    by_cases h : p.1 = n
    · simp [h]
    · have h2 : (n == p.1) = false := by simp [Ne.symm h]
      simp [h, ih, h2]
theorem find_mem {hs : Ps} {n v : Bs} (h : findP hs n = some v) : ∃ p ∈ hs, p.1 = n := by
  induction hs with
  | nil => cases h
  | cons p s ih =>
    unfold findP at h
    split at h
    · rename_i e; exact ⟨p, by simp, e⟩
    · obtain ⟨q, hq, e⟩ := ih h
      exact ⟨q, by simp [hq], e⟩
theorem header_ne {l : Bs} {p : Bs × Bs} (h : headerOf l = some p) : p.1 ≠ [] := by
  unfold headerOf at h
  split at h
  · rename_i k
    cases h
    intro e
    have := k.2.1
    simp only at e
    rw [e] at this
    cases this
  · cases h
theorem headers_ne : ∀ (k : Nat) (l : Ps) (rest : Bs) (x : Ps × Bs), (∀ p ∈ l, p.1 ≠ []) → headersFrom k l rest = some x → ∀ p ∈ x.1, p.1 ≠ [] := by
  intro k
  induction k with
  | zero =>
    intro l rest x hl h
    unfold headersFrom at h
    split at h
    · cases h
    · split at h
      · cases h; exact hl
      · cases h
  | succ k ih =>
    intro l rest x hl h
    unfold headersFrom at h
    split at h
    · cases h
    · split at h
      · cases h; exact hl
      · simp only at h
        split at h
        · cases h
        · rename_i p hp
          split at h
          · cases h
          · rename_i l' hl'
            have e : l' = l ++ [p] := by
              unfold addP at hl'
              split at hl'
              · cases hl'; rfl
              · cases hl'
            refine ih l' _ x (fun q hq => ?_) h
            rw [e] at hq
            rcases List.mem_append.1 hq with hq | hq
            · exact hl q hq
            · have : q = p := by simpa using hq
              subst this
              exact header_ne hp
theorem parse_ne (s : Bs) : ∀ n v, findP (parseOf s).2.headers n = some v → n ≠ [] := by
  intro n v h
  obtain ⟨p, hp, rfl⟩ := find_mem h
  clear h
  unfold parseOf at hp
  split at hp
  · cases hp
  · split at hp
    · cases hp
    · rename_i r hr
      split at hp
      · cases hp
      · simp only at hp
        unfold reqOf at hr
        split at hr
        · split at hr
          · cases hr
          · split at hr
            · cases hr
            · rename_i hs body hx
              split at hr
              · cases hr
                exact headers_ne _ _ _ _ (fun q hq => by cases hq) hx p hp
              · cases hr
        · cases hr
end Go.Proofs.YtinnliapfdpfpaaGreatDoor.R
namespace Go.Proofs.YtinnliapfdpfpaaGreatDoor.R
open Go.RowKit
open Go.Proofs.YtinnliapfdpfpaaGreatDoor.C (ret_bool ret_int)

/-- A row of texts that can be read, in a block below B. -/
def shold (w : World) (B : Nat) (v : Value) (l : List Bs) : Prop :=
  (v = .slice none 0 0 ∧ l = []) ∨ ∃ g cap, v = .slice (some ⟨g, 0, none⟩) l.length cap ∧ g < B ∧ ∀ k (h : k < l.length), w.cell? ⟨g, k, none⟩ = some (str l[k])
theorem shold_nil (w : World) (B : Nat) : shold w B (.slice none 0 0) [] := .inl ⟨rfl, rfl⟩
theorem srow.hold {w : World} {B : Nat} {v : Value} {l : List Bs} (h : srow w B v l) : shold w w.heap.size v l := by
  by_cases hl : l = []
  · subst hl
    obtain ⟨h1, ⟨rfl, hn⟩ | ⟨g, cap, cur, rfl, hg, _⟩⟩ := id h
    · exact .inl ⟨rfl, rfl⟩
    · exact .inr ⟨g, cap, rfl, ((World.ownsRow.lt h) g rfl).2, fun k hk => absurd hk (by simp)⟩
  · obtain ⟨g, cap, rfl, _, h2, h3⟩ := h.form hl
    exact .inr ⟨g, cap, rfl, h2, h3⟩
theorem shold.below {w w' : World} {B : Nat} {v : Value} {l : List Bs} (h : shold w B v l) (k : Below B w w') : shold w' B v l := by
  rcases h with h | ⟨g, cap, rfl, hg, hc⟩
  · exact .inl h
  · exact .inr ⟨g, cap, rfl, hg, fun j hj => (k.cell (p := ⟨g, j, none⟩) hg).trans (hc j hj)⟩
theorem shold.up {w : World} {B B' : Nat} {v : Value} {l : List Bs} (h : shold w B v l) (k : B ≤ B') : shold w B' v l := by
  rcases h with h | ⟨g, cap, rfl, hg, hc⟩
  · exact .inl h
  · exact .inr ⟨g, cap, rfl, by omega, hc⟩
theorem srow.below {w w' : World} {B : Nat} {v : Value} {l : List Bs} (h : srow w B v l) (k : Below w.heap.size w w') : srow w' B v l := by
  have hb := World.ownsRow.lt h
  obtain ⟨h1, ⟨rfl, hn⟩ | ⟨g, cap, cur, rfl, h2, h3, h4⟩⟩ := h
  · exact ⟨h1, .inl ⟨rfl, hn⟩⟩
  · exact ⟨h1, .inr ⟨g, cap, cur, rfl, h2, (k.block g (hb g rfl).2).trans h3, h4⟩⟩
theorem srow.up {w : World} {B B' : Nat} {v : Value} {l : List Bs} (h : srow w B v l) (hB : B' ≤ B) : srow w B' v l := by
  obtain ⟨h1, h2 | ⟨g, cap, cur, rfl, h2, h3, h4⟩⟩ := h
  · exact ⟨h1, .inl h2⟩
  · exact ⟨h1, .inr ⟨g, cap, cur, rfl, Nat.le_trans hB h2, h3, h4⟩⟩
theorem str_app (a b : Bs) : ((⟨a.toArray⟩ : ByteArray) ++ ⟨b.toArray⟩) = ⟨(a ++ b).toArray⟩ := by
  apply ByteArray.ext
  apply Array.ext'
  simp

set_option maxHeartbeats 400000 in
theorem rbegins_any (n pre : Bs) (w : World) (_hn : n.length ≤ 1000000) (_hp : pre.length ≤ 1000000) :
    Calls Tryz.prog 68 #[str n, str pre] w fun e w' => e = .returned (.bool (pre.isPrefixOf n)) ∧ w' = w := by
  have hpre : pre.isPrefixOf n = (n.take pre.length == pre) := by
    rw [Bool.eq_iff_iff, List.isPrefixOf_iff_prefix, beq_iff_eq, List.prefix_iff_eq_take]; exact eq_comm
  have HE : (⟨n.toArray⟩ : ByteArray).extract 0 pre.length = ⟨(n.take pre.length).toArray⟩ := by rw [ext_drop_take]; simp
  have HP : Hid (pre.isPrefixOf n = (n.take pre.length == pre)) := hpre
  by_cases h : pre.length ≤ n.length
  · go_enter Tryz.func68, Tryz.ntmps68
    have h1 : (pre.length : Int) ≤ (n.length : Int) := by omega
    go_wp2
    go_ret
    exact ⟨ret_bool HP.out.symm, rfl⟩
  · have HF : Hid (pre.isPrefixOf n = false) := by
      show _ = _
      rw [Bool.eq_false_iff]; intro h2
      have := (List.isPrefixOf_iff_prefix.1 h2).length_le
      omega
    go_enter Tryz.func68, Tryz.ntmps68
    go_wp2
    go_ret
    exact ⟨ret_bool (by rw [HF.out]), rfl⟩

def hasN (l : List Bs) (n : Bs) : Bool := l.contains n
theorem contains_take {l : List Bs} {k : Nat} (h : k < l.length) (n : Bs) (h0 : hasN (l.take k) n = false) : hasN (l.take (k + 1)) n = (l[k] == n) := by
  rw [List.take_succ_eq_append_getElem h]
  simp only [hasN, List.contains_eq_any_beq, List.any_append, List.any_cons, List.any_nil, Bool.or_false] at h0 ⊢
  rw [h0, Bool.false_or]
  exact Bool.beq_comm ..
theorem contains_hit {l : List Bs} {k : Nat} (h : k < l.length) (n : Bs) (he : (l[k] == n) = true) : hasN l n = true := by
  rw [hasN, List.contains_iff_mem]; rw [← eq_of_beq he]; exact List.getElem_mem h
set_option maxHeartbeats 400000 in
theorem rnamed_any (v : Value) (l : List Bs) (n : Bs) (B : Nat) (w : World) (h : shold w B v l) (hl : l.length ≤ 1000000000) :
    Calls Tryz.prog 69 #[v, str n] w fun e w' => e = .returned (.bool (hasN l n)) ∧ w' = w := by
  rcases h with ⟨rfl, rfl⟩ | ⟨g, cap, rfl, hg, hc⟩
  · go_enter Tryz.func69, Tryz.ntmps69
    go_wp2
    go_loop [5] (fun i => i = .int .i64 0) (fun _ => 0)
    case atStart => rfl
    case round =>
      subst hrel
      go_wp2
      go_ret
      exact ⟨rfl, rfl⟩
  · go_enter Tryz.func69, Tryz.ntmps69
    go_wp2
    go_loop [5] (fun i => ∃ k : Nat, k ≤ l.length ∧ i = .int .i64 k ∧ hasN (l.take k) n = false) (fun i => l.length - (intOf i).toNat)
    case atStart => exact ⟨0, Nat.zero_le _, rfl, by simp [hasN]⟩
    case round =>
      obtain ⟨k, hk, rfl, hno⟩ := hrel
      have HN : Hid (hasN (l.take k) n = false) := hno
      clear hno
      by_cases hlt : k < l.length
      · have c1 := hc k hlt
        have HS : Hid (hasN (l.take (k + 1)) n = (l[k] == n)) := contains_take hlt n HN.out
        have HH : Hid ((l[k] == n) = true → hasN l n = true) := contains_hit hlt n
        go_wp2
        · rename_i he _
          go_ret
          exact ⟨ret_bool (HH.out he).symm, rfl⟩
        · rename_i he
          go_round
          case rel => exact ⟨k + 1, by omega, by go_num, by rw [HS.out]; simpa using he⟩
          case measure => simp [intOf]; omega
      · have HT : Hid (hasN l n = false) := by have := HN.out; rwa [List.take_of_length_le (by omega)] at this
        go_wp2
        go_ret
        exact ⟨ret_bool HT.out.symm, rfl⟩

theorem join_snoc (l : List Bs) (x sep : Bs) (h : l ≠ []) : Lib.join (l ++ [x]) sep = Lib.join l sep ++ sep ++ x := by
  induction l with
  | nil => exact absurd rfl h
  | cons a r ih =>
    cases r with
    | nil => simp [join_cons2, Lib.join_one]
    | cons b r =>
      have := ih (by simp)
      simp only [List.cons_append] at this ⊢
      rw [join_cons2, this, join_cons2]
      simp
theorem join_take {l : List Bs} {k : Nat} (h : k < l.length) (sep : Bs) (h0 : 0 < k) : Lib.join (l.take (k + 1)) sep = Lib.join (l.take k) sep ++ sep ++ l[k] := by
  rw [List.take_succ_eq_append_getElem h]
  exact join_snoc _ _ _ (by intro e; have := congrArg List.length e; rw [List.length_take, List.length_nil] at this; omega)
theorem join_take0 {l : List Bs} (h : 0 < l.length) (sep : Bs) : Lib.join (l.take 1) sep = l[0] := by
  rw [show (1 : Nat) = 0 + 1 from rfl, List.take_succ_eq_append_getElem h]
  simp [Lib.join_one]
set_option maxHeartbeats 400000 in
theorem rjoined_any (v : Value) (l : List Bs) (sep : Bs) (B : Nat) (w : World) (h : shold w B v l) (hl : l.length ≤ 1000000000) (hm : ∀ x ∈ l, x.length ≤ 100000000) (hs : sep.length ≤ 1000) :
    Calls Tryz.prog 72 #[v, str sep] w fun e w' => e = .returned (str (Lib.join l sep)) ∧ w' = w := by
  rcases h with ⟨rfl, rfl⟩ | ⟨g, cap, rfl, hg, hc⟩
  · go_enter Tryz.func72, Tryz.ntmps72
    go_wp2
    go_loop [5, 6] (fun s i => s = str [] ∧ i = .int .i64 0) (fun _ _ => 0)
    case atStart => exact ⟨rfl, rfl⟩
    case round =>
      obtain ⟨rfl, rfl⟩ := hrel
      go_wp2
      go_ret
      exact ⟨rfl, rfl⟩
  · go_enter Tryz.func72, Tryz.ntmps72
    go_wp2
    go_loop [5, 6] (fun s i => ∃ (k : Nat) (j : Bs), k ≤ l.length ∧ i = .int .i64 k ∧ s = str j ∧ j = Lib.join (l.take k) sep ∧ j.length ≤ k * 1000000000) (fun _ i => l.length - (intOf i).toNat)
    case atStart => exact ⟨0, [], Nat.zero_le _, rfl, rfl, by simp [Lib.join, List.intercalate], by simp⟩
    case round =>
      obtain ⟨k, j, hk, rfl, rfl, hj, hjl⟩ := hrel
      have HJ : Hid (j = Lib.join (l.take k) sep) := hj
      clear hj
      by_cases hlt : k < l.length
      · have c1 := hc k hlt
        have hm1 := hm l[k] (List.getElem_mem hlt)
        by_cases h0 : 0 < k
        · have HS : Hid (Lib.join (l.take (k + 1)) sep = j ++ sep ++ l[k]) := by show _ = _; rw [HJ.out]; exact join_take hlt sep h0
          have h0' : (0 : Int) < (k : Int) := by omega
          go_wp2
          go_round
          case rel => exact ⟨k + 1, j ++ sep ++ l[k], by omega, by go_num, by simp only [str_app], HS.out.symm, by simp; omega⟩
          case measure => simp [intOf]; omega
        · obtain rfl : k = 0 := by omega
          have HS : Hid (Lib.join (l.take 1) sep = l[0]) := join_take0 hlt sep
          have HJ0 : j = [] := by rw [HJ.out]; simp [Lib.join, List.intercalate]
          subst HJ0
          go_wp2
          go_round
          case rel => exact ⟨1, l[0], by omega, by go_num, congrArg Value.string (str_app [] l[0]), HS.out.symm, by omega⟩
          case measure => simp [intOf]; omega
      · have HT : Hid (j = Lib.join l sep) := by have := HJ.out; rwa [List.take_of_length_le (by omega)] at this
        go_wp2
        go_ret
        exact ⟨by rw [← HT.out]; rfl, rfl⟩
end Go.Proofs.YtinnliapfdpfpaaGreatDoor.R
