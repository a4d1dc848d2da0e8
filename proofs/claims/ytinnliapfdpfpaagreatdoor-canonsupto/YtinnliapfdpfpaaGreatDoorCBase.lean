/-
  THE PLAIN MATHEMATICS OF CODES: bytes that stand for themselves, digits, the code of a text, the text of a code. It imports nothing of the program.
-/
import Derived.Test.YtinnliapfdpfpaaGreatDoorProg
import Derived.WalkKit
import Derived.WalkSpells
import Derived.WalkLawsBesides
import Derived.Deep.AppendLies
import Derived.Deep.RegionLaw
import Derived.Laws.BitsLemmas
import Derived.Laws.BytesArg
import Derived.Laws.IdiomStrings
import Derived.Defers
import Derived.Recover
import Derived.Laws.BitsAllLaws
namespace Go.Proofs.YtinnliapfdpfpaaGreatDoor.C

/-- Does a byte stand for itself? -/
def plainB (b : Int) (p : Bool) : Bool :=
  decide (97 ≤ b ∧ b ≤ 122) || decide (65 ≤ b ∧ b ≤ 90) || decide (48 ≤ b ∧ b ≤ 57) || b == 45 || b == 46 || b == 95 || b == 126 || (p && b == 47)

/-- A hexadecimal digit's value (-1: it is none). -/
def digV (b : Int) : Int :=
  if 48 ≤ b ∧ b ≤ 57 then b - 48 else if 65 ≤ b ∧ b ≤ 70 then b - 55 else if 97 ≤ b ∧ b ≤ 102 then b - 87 else -1

/-- The digit of a value below 16. -/
def hexD (n : Nat) : UInt8 := if n < 10 then UInt8.ofNat (48 + n) else UInt8.ofNat (55 + n)

def enc1 (p : Bool) (c : UInt8) : List UInt8 :=
  if plainB (c.toNat : Int) p then [c] else [37, hexD (c.toNat / 16), hexD (c.toNat % 16)]

def enc (p : Bool) (l : List UInt8) : List UInt8 := l.flatMap (enc1 p)

/-- One byte of a code's text: the byte and what is left; none: no code. -/
def dec1 (p : Bool) : List UInt8 → Option (UInt8 × List UInt8)
  | [] => none
  | c :: r =>
    if plainB (c.toNat : Int) p then some (c, r)
    else if c.toNat = 37 then
      match r with
      | a :: b :: t => if 0 ≤ digV (a.toNat : Int) ∧ 0 ≤ digV (b.toNat : Int) then some (UInt8.ofNat (16 * digV (a.toNat : Int) + digV (b.toNat : Int)).toNat, t) else none
      | _ => none
    else none

theorem dec1_len {p : Bool} {l : List UInt8} {c : UInt8} {r : List UInt8} (h : dec1 p l = some (c, r)) : r.length < l.length := by
  unfold dec1 at h
  split at h
  · simp at h
  · split at h
    · simp at h; obtain ⟨_, rfl⟩ := h; simp
    · split at h
      · split at h
        · split at h
          · simp at h; obtain ⟨_, rfl⟩ := h; simp; omega
          · simp at h
        · simp at h
      · simp at h

/-- The text of a code, by so many rounds. -/
def decN (p : Bool) : Nat → List UInt8 → Option (List UInt8)
  | 0, _ => none
  | _ + 1, [] => some []
  | n + 1, l@(_ :: _) => match dec1 p l with
    | none => none
    | some (c, r) => (decN p n r).map (c :: ·)

def dec (p : Bool) (l : List UInt8) : Option (List UInt8) := decN p (l.length + 1) l

theorem decN_more (p : Bool) : ∀ (n m : Nat) (l : List UInt8), l.length < n → l.length < m → decN p n l = decN p m l := by
  intro n
  induction n with
  | zero => intro m l h; omega
  | succ n ih =>
    intro m l hn hm
    obtain ⟨m, rfl⟩ : ∃ k, m = k + 1 := ⟨m - 1, by omega⟩
    match l with
    | [] => rfl
    | x :: l' =>
      simp only [decN]
      cases hd : dec1 p (x :: l') with
      | none => rfl
      | some cr =>
        obtain ⟨c, r⟩ := cr
        have := dec1_len hd
        simp only
        rw [ih m r (by omega) (by omega)]

theorem dec_nil (p : Bool) : dec p [] = some [] := rfl
theorem dec_none {p : Bool} {l : List UInt8} (hl : l ≠ []) (h : dec1 p l = none) : dec p l = none := by
  match l, hl with
  | x :: l', _ => simp only [dec, decN, h]
theorem dec_some {p : Bool} {l : List UInt8} {c : UInt8} {r : List UInt8} (h : dec1 p l = some (c, r)) : dec p l = (dec p r).map (c :: ·) := by
  have hlen := dec1_len h
  match l with
  | [] => simp [dec1] at h
  | x :: l' =>
    simp only [dec, List.length_cons, decN, h]
    rw [decN_more p (l'.length + 1) (r.length + 1) r (by simp at hlen; omega) (by omega)]

theorem dec1_nil (p : Bool) : dec1 p [] = none := rfl
theorem dec1_plain {p : Bool} {c : UInt8} (r : List UInt8) (h : plainB (c.toNat : Int) p = true) : dec1 p (c :: r) = some (c, r) := by
  simp [dec1, h]
theorem plain37 (p : Bool) : plainB 37 p = false := by cases p <;> decide
theorem dec1_odd {p : Bool} {c : UInt8} (r : List UInt8) (h : plainB (c.toNat : Int) p = false) (hc : ¬ c.toNat = 37) : dec1 p (c :: r) = none := by
  simp [dec1, h, hc]
theorem dec1_pct {p : Bool} {c a b : UInt8} (t : List UInt8) (hc : c.toNat = 37) (ha : 0 ≤ digV (a.toNat : Int)) (hb : 0 ≤ digV (b.toNat : Int)) :
    dec1 p (c :: a :: b :: t) = some (UInt8.ofNat (16 * digV (a.toNat : Int) + digV (b.toNat : Int)).toNat, t) := by
  simp [dec1, hc, plain37, ha, hb]
theorem dec1_pctA {p : Bool} {c a : UInt8} (t : List UInt8) (hc : c.toNat = 37) (ha : digV (a.toNat : Int) < 0) : dec1 p (c :: a :: t) = none := by
  cases t with
  | nil => simp [dec1, hc, plain37]
  | cons b t => have : ¬ 0 ≤ digV (a.toNat : Int) := by omega
                simp [dec1, hc, plain37, this]
theorem dec1_pctB {p : Bool} {c a b : UInt8} (t : List UInt8) (hc : c.toNat = 37) (hb : digV (b.toNat : Int) < 0) : dec1 p (c :: a :: b :: t) = none := by
  have : ¬ 0 ≤ digV (b.toNat : Int) := by omega
  simp [dec1, hc, plain37, this]
theorem dec1_pct0 {p : Bool} {c : UInt8} (hc : c.toNat = 37) : dec1 p [c] = none := by simp [dec1, hc, plain37]
theorem dec1_pct1 {p : Bool} {c a : UInt8} (hc : c.toNat = 37) : dec1 p [c, a] = none := by simp [dec1, hc, plain37]

theorem digV_bd (b : Int) : -1 ≤ digV b ∧ digV b ≤ 15 := by unfold digV; split <;> (try split) <;> (try split) <;> omega

theorem hexD_toNat (n : Nat) (h : n < 16) : (hexD n).toNat = if n < 10 then 48 + n else 55 + n := by
  unfold hexD; split <;> simp <;> omega
theorem digV_hexD (n : Nat) (h : n < 16) : digV ((hexD n).toNat : Int) = n := by
  rw [hexD_toNat n h]; unfold digV; split <;> (try split) <;> (try split) <;> (try split) <;> omega

theorem enc_nil (p : Bool) : enc p [] = [] := rfl
theorem enc_cons (p : Bool) (c : UInt8) (l : List UInt8) : enc p (c :: l) = enc1 p c ++ enc p l := by simp [enc]
theorem enc_snoc (p : Bool) (l : List UInt8) (c : UInt8) : enc p (l ++ [c]) = enc p l ++ enc1 p c := by simp [enc]
theorem enc1_len (p : Bool) (c : UInt8) : 1 ≤ (enc1 p c).length ∧ (enc1 p c).length ≤ 3 := by unfold enc1; split <;> simp
theorem enc_len (p : Bool) : ∀ l : List UInt8, l.length ≤ (enc p l).length ∧ (enc p l).length ≤ 3 * l.length := by
  intro l
  induction l with
  | nil => simp [enc_nil]
  | cons c l ih => have := enc1_len p c; rw [enc_cons]; simp; omega

theorem byte_div (c : UInt8) : UInt8.ofNat (16 * (c.toNat / 16 : Nat) + (c.toNat % 16 : Nat) : Int).toNat = c := by
  have e : (16 * (c.toNat / 16 : Nat) + (c.toNat % 16 : Nat) : Int).toNat = c.toNat := by omega
  rw [e]; simp

theorem dec1_enc1 (p : Bool) (c : UInt8) (r : List UInt8) : dec1 p (enc1 p c ++ r) = some (c, r) := by
  unfold enc1
  by_cases h : plainB (c.toNat : Int) p = true
  · simp only [h, if_true, List.cons_append, List.nil_append]; exact dec1_plain r h
  · have h' : plainB (c.toNat : Int) p = false := by simpa using h
    simp only [h', Bool.false_eq_true, if_false, List.cons_append, List.nil_append]
    have hb := c.toNat_lt
    have e1 := digV_hexD (c.toNat / 16) (by omega)
    have e2 := digV_hexD (c.toNat % 16) (by omega)
    rw [dec1_pct r rfl (by rw [e1]; omega) (by rw [e2]; omega), e1, e2, byte_div]

/-- What is coded is told again. -/
theorem dec_enc (p : Bool) : ∀ l : List UInt8, dec p (enc p l) = some l := by
  intro l
  induction l with
  | nil => rfl
  | cons c l ih => rw [enc_cons, dec_some (dec1_enc1 p c (enc p l)), ih]; rfl

theorem dec1_short {p : Bool} {l : List UInt8} {c : UInt8} {r : List UInt8} (h : dec1 p l = some (c, r)) : (enc1 p c).length + r.length ≤ l.length := by
  unfold dec1 at h
  split at h
  · simp at h
  · split at h
    · rename_i hp
      simp at h; obtain ⟨rfl, rfl⟩ := h; simp [enc1, hp]; omega
    · split at h
      · split at h
        · split at h
          · simp at h; obtain ⟨_, rfl⟩ := h; have := (enc1_len p c).2; simp; omega
          · simp at h
        · simp at h
      · simp at h

theorem decN_short (p : Bool) : ∀ (n : Nat) (l t : List UInt8), decN p n l = some t → (enc p t).length ≤ l.length := by
  intro n
  induction n with
  | zero => intro l t h; simp [decN] at h
  | succ n ih =>
    intro l t h
    match l with
    | [] => simp [decN] at h; subst h; simp [enc_nil]
    | x :: l' =>
      simp only [decN] at h
      cases hd : dec1 p (x :: l') with
      | none => simp [hd] at h
      | some cr =>
        obtain ⟨c, r⟩ := cr
        simp only [hd, Option.map_eq_some_iff] at h
        obtain ⟨t', ht', rfl⟩ := h
        have := ih r t' ht'
        have := dec1_short hd
        rw [enc_cons]; simp at *; omega

/-- No code is shorter than the one that 'enc' tells. -/
theorem dec_short {p : Bool} {l t : List UInt8} (h : dec p l = some t) : (enc p t).length ≤ l.length := decN_short p _ l t h

end Go.Proofs.YtinnliapfdpfpaaGreatDoor.C
namespace Go.Proofs.YtinnliapfdpfpaaGreatDoor.C
open Go.RowKit
theorem ret_bool {a b : Bool} (h : a = b) : Ending.returned (.bool a) = .returned (.bool b) := by rw [h]
theorem ret_int {k : IntKind} {a b : Int} (h : a = b) : Ending.returned (.int k a) = .returned (.int k b) := by rw [h]
def hasB (l : List UInt8) (b : Int) : Bool := l.any fun c => (c.toNat : Int) == b
theorem hasB_snoc (l : List UInt8) (c : UInt8) (b : Int) : hasB (l ++ [c]) b = (hasB l b || (c.toNat : Int) == b) := by simp [hasB]
theorem hasB_take {l : List UInt8} {k : Nat} {b : Int} (h : hasB (l.take k) b = true) : hasB l b = true := by
  rw [← List.take_append_drop k l]; simp only [hasB, List.any_append] at *; simp [h]
def setA : Array UInt8 := #[48, 49, 50, 51, 52, 53, 54, 55, 56, 57, 97, 98, 99, 100, 101, 102, 103, 104, 105, 106, 107, 108, 109, 110, 111, 112, 113, 114, 115, 116, 117, 118, 119, 120, 121, 122, 65, 66, 67, 68, 69, 70, 71, 72, 73, 74, 75, 76, 77, 78, 79, 80, 81, 82, 83, 84, 85, 86, 87, 88, 89, 90, 45, 46, 95, 126]
theorem set_fin : ∀ n : Fin 256, hasB setA.toList (n.val : Int) = plainB (n.val : Int) false := by decide +kernel
theorem set_any (b : Int) (h0 : 0 ≤ b) (h1 : b ≤ 255) : hasB setA.toList b = plainB b false := by
  have := set_fin ⟨b.toNat, by omega⟩
  simp only [Int.toNat_of_nonneg h0] at this
  exact this
theorem plain_path (b : Int) : plainB b true = (plainB b false || b == 47) := by simp [plainB]
def lowA : Array UInt8 := #[48, 49, 50, 51, 52, 53, 54, 55, 56, 57, 97, 98, 99, 100, 101, 102]
def upA : Array UInt8 := #[48, 49, 50, 51, 52, 53, 54, 55, 56, 57, 65, 66, 67, 68, 69, 70]
theorem low_fin : ∀ n : Fin 16, ((⟨lowA⟩ : ByteArray)[n.val]'n.isLt).toNat = if n.val < 10 then 48 + n.val else 87 + n.val := by decide +kernel
theorem up_fin : ∀ n : Fin 16, ((⟨upA⟩ : ByteArray)[n.val]'n.isLt).toNat = if n.val < 10 then 48 + n.val else 55 + n.val := by decide +kernel
theorem low_at (k : Nat) (h : k < 16) : ((⟨#[48, 49, 50, 51, 52, 53, 54, 55, 56, 57, 97, 98, 99, 100, 101, 102]⟩ : ByteArray)[k]'h).toNat = if k < 10 then 48 + k else 87 + k := low_fin ⟨k, h⟩
theorem up_at (k : Nat) (h : k < 16) : ((⟨#[48, 49, 50, 51, 52, 53, 54, 55, 56, 57, 65, 66, 67, 68, 69, 70]⟩ : ByteArray)[k]'h).toNat = if k < 10 then 48 + k else 55 + k := up_fin ⟨k, h⟩
theorem digV_is (b : Int) (k : Nat) (hk : k < 16) : digV b = k ↔ b = (if k < 10 then 48 + k else 87 + k : Nat) ∨ b = (if k < 10 then 48 + k else 55 + k : Nat) := by
  unfold digV; split <;> (try split) <;> (try split) <;> (try split) <;> omega
theorem digV_no (b : Int) (h : ∀ j : Nat, j < 16 → ¬ digV b = j) : digV b = -1 := by
  have := digV_bd b
  by_cases h' : digV b = -1
  · exact h'
  · exact absurd (by omega) (h (digV b).toNat (by omega))
theorem take_snoc (s : ByteArray) (k : Nat) (h : k < s.size) : s.data.toList.take (k + 1) = s.data.toList.take k ++ [s[k]] := by
  rw [List.take_succ_eq_append_getElem (by simpa using h)]; rfl

set_option maxHeartbeats 400000 in
theorem in_any (b : Int) (s : ByteArray) (w : World) (hs : s.size ≤ 1000000000) :
    Calls Tryz.prog 153 #[.int .u8 b, .string s] w fun e w' => e = .returned (.bool (hasB s.data.toList b)) ∧ w' = w := by
  go_enter Tryz.func153, Tryz.ntmps153
  go_wp2
  go_loop [5] (fun i => ∃ k : Nat, k ≤ s.size ∧ i = .int .i64 k ∧ hasB (s.data.toList.take k) b = false) (fun i => s.size - (intOf i).toNat)
  case atStart => exact ⟨0, Nat.zero_le _, rfl, by simp [hasB]⟩
  case round =>
    obtain ⟨k, hk, rfl, hno⟩ := hrel
    have HN : Hid (hasB (s.data.toList.take k) b = false) := hno
    clear hno
    by_cases hlt : k < s.size
    · have HS : Hid (hasB (s.data.toList.take (k + 1)) b = (hasB (s.data.toList.take k) b || (s[k].toNat : Int) == b)) := by rw [take_snoc s k hlt]; exact hasB_snoc _ _ _
      go_wp2
      · go_ret
        refine ⟨ret_bool (hasB_take (k := k + 1) ?_).symm, rfl⟩
        rw [HS.out]; simp [*]
      · go_round
        case rel => exact ⟨k + 1, by omega, by go_num, by rw [HS.out, HN.out]; simp [*]⟩
        case measure => simp [intOf]; omega
    · go_wp2
      go_ret
      exact ⟨ret_bool (by rw [← HN.out, List.take_of_length_le (by simp; omega)]), rfl⟩

set_option maxHeartbeats 400000 in
theorem digit_any (b : Int) (w : World) :
    Calls Tryz.prog 211 #[.int .u8 b] w fun e w' => e = .returned (.int .i64 (digV b)) ∧ w' = w := by
  go_enter Tryz.func211, Tryz.ntmps211
  go_wp2
  go_loop [3] (fun i => ∃ k : Nat, k ≤ 16 ∧ i = .int .i64 k ∧ ∀ j : Nat, j < k → ¬ digV b = j) (fun i => 16 - (intOf i).toNat)
  case atStart => exact ⟨0, Nat.zero_le _, rfl, by simp⟩
  case round =>
    obtain ⟨k, hk, rfl, hno⟩ := hrel
    have HN : Hid (∀ j : Nat, j < k → ¬ digV b = j) := hno
    clear hno
    by_cases hlt : k < 16
    · have HD : Hid (digV b = k ↔ b = (if k < 10 then 48 + k else 87 + k : Nat) ∨ b = (if k < 10 then 48 + k else 55 + k : Nat)) := digV_is b k hlt
      have HL : Hid (((⟨#[48, 49, 50, 51, 52, 53, 54, 55, 56, 57, 97, 98, 99, 100, 101, 102]⟩ : ByteArray)[k]'hlt).toNat = if k < 10 then 48 + k else 87 + k) := low_at k hlt
      have HU : Hid (((⟨#[48, 49, 50, 51, 52, 53, 54, 55, 56, 57, 65, 66, 67, 68, 69, 70]⟩ : ByteArray)[k]'hlt).toNat = if k < 10 then 48 + k else 55 + k) := up_at k hlt
      go_wp2
      · go_ret
        rename_i hx _
        refine ⟨ret_int (HD.out.2 (Or.inl ?_)).symm, rfl⟩
        rw [← hx, HL.out]
      · go_ret
        rename_i hx hy _
        refine ⟨ret_int (HD.out.2 (Or.inr ?_)).symm, rfl⟩
        rcases hy with hy | hy
        · exact absurd (eq_of_beq hy) hx
        · rw [← eq_of_beq hy, HU.out]
      · rename_i hx hy
        go_round
        case rel =>
          refine ⟨k + 1, by omega, by go_num, ?_⟩
          intro j hj hd
          by_cases hjk : j < k
          · exact HN.out j hjk hd
          · obtain rfl : j = k := by omega
            rcases HD.out.1 hd with h | h
            · exact hx (by rw [HL.out]; exact h.symm)
            · have := beq_eq_false_iff_ne.1 hy.2
              exact this (by rw [HU.out]; exact h.symm)
        case measure => simp [intOf]; omega
    · go_wp2
      go_ret
      exact ⟨ret_int (digV_no b fun j hj => HN.out j (by omega)).symm, rfl⟩
set_option maxHeartbeats 400000 in
theorem stands_any (b : Int) (p : Bool) (h0 : 0 ≤ b) (h1 : b ≤ 255) (w : World) :
    Calls Tryz.prog 109 #[.int .u8 b, .bool p] w fun e w' => e = .returned (.bool (plainB b p)) ∧ w' = w := by
  have hp := plain_path b
  have HP : Hid (plainB b true = (plainB b false || b == 47)) := hp
  clear hp
  go_enter Tryz.func109, Tryz.ntmps109
  go_wp2_with fail
  refine (in_any b ⟨setA⟩ w (by decide)).mono ?_
  rintro e w' ⟨rfl, rfl⟩
  rw [show hasB (⟨setA⟩ : ByteArray).data.toList b = plainB b false from set_any b h0 h1]
  cases hq : plainB b false
  all_goals
    cases p
    all_goals
      go_wp2
      go_ret
      exact ⟨ret_bool (by first | exact hq.symm | (rw [HP.out, hq]; simp)), rfl⟩

set_option maxHeartbeats 400000 in
theorem isPlain_any (b : Int) (p : Bool) (w : World) :
    Calls Tryz.prog 79 #[.int .u8 b, .bool p] w fun e w' => e = .returned (.bool (plainB b p)) ∧ w' = w := by
  go_enter Tryz.func79, Tryz.ntmps79
  go_wp2
  all_goals (go_ret; refine ⟨ret_bool ?_, rfl⟩; simp_all [plainB]; try omega)

end Go.Proofs.YtinnliapfdpfpaaGreatDoor.C
namespace Go.Proofs.YtinnliapfdpfpaaGreatDoor.C
open Go.RowKit
theorem Tryz.info5 : (Tryz.prog.info? 5).map (fun i => (i.zero, i.size, i.bytes)) = some (some (.int .u8 0), 1, 1) := by kernel_rfl
def u8v (c : UInt8) : Value := .int .u8 (c.toNat : Int)
def owns (w : World) (B : Nat) (v : Value) (l : List UInt8) : Prop := w.ownsRow B 5 1 v l.length (l.map u8v)
theorem owns.lt {w : World} {B : Nat} {v : Value} {l : List UInt8} (h : owns w B v l) : ∀ k, v.ownBlock = some k → B ≤ k := fun k hk => (World.ownsRow.lt h k hk).1
theorem owns.alloc {w : World} {B : Nat} {v : Value} {l : List UInt8} (h : owns w B v l) (o : Obj) : owns (w.alloc o) B v l := World.ownsRow.alloc h o

theorem app_law {w : World} {ops : Array Oper} {rest : List Oper} {o : Oper} {a : Act} {Q : Exit → Act → World → Prop} (hgd : o.guard = none) (s x : Operand)
    (ho : o.op = .call { callee := .builtin .append, args := #[s, x], argTypes := #[89, 89] })
    (B : Nat) (l m : List UInt8) (v : Value) (hs : a.eval s = v) (hown : owns w B v l) (H : Nat) (n : Nat) (hn : m.length = n) (hx : a.eval x = .slice (some ⟨H, 0, none⟩) n n)
    (fr : Nat × Nat) (hblk : w.heap[H]? = some (.cells (m.map u8v).toArray 5 fr)) (hm : 0 < n) (hlen : l.length + n ≤ 100000000000) (hB : B ≤ w.heap.size)
    (h : ∀ v' w', owns w' B v' (l ++ m) → Below B w w' → wpList Tryz.prog ops Q rest (a.put o.dst v') w') : wpList Tryz.prog ops Q (o :: rest) a w := by
  obtain ⟨i0, hi, hz0, hz1, hz2⟩ := info_parts Tryz.info5
  subst hn
  refine wpList_append_lies _ hgd s x 89 ho B 5 i0 (.int .u8 0) 1 1 Tryz.underlying89 hi hz0 hz1 hz2 rfl (by omega) v l.length (l.map u8v) hs hown ⟨H, 0, none⟩ m.length m.length (m.map u8v) hx (by simp)
    (fun j u hu => World.news_of_block hblk j u (by simpa using hu)) (by intro u hu; simp at hu; obtain ⟨c, _, rfl⟩ := hu; rfl) hm (by unfold maxLen; omega) (by omega) hB w.heap.size rfl ?_
  intro g cap w' h1 h2 _ _
  exact h _ w' (by simpa [owns] using h1) ((Below.refl B w).grown h2 hB hown.lt)

theorem app_step {w : World} {ops : Array Oper} {o : Oper} {a : Act} {K : Act → World → Prop} {Q : Exit → Act → World → Prop} {E : Prop} (hgd : o.guard = none) (s x : Operand)
    (ho : o.op = .call { callee := .builtin .append, args := #[s, x], argTypes := #[89, 89] })
    (B : Nat) (l m : List UInt8) (v : Value) (hs : a.eval s = v) (hown : owns w B v l) (H : Nat) (n : Nat) (hn : m.length = n) (hx : a.eval x = .slice (some ⟨H, 0, none⟩) n n)
    (fr : Nat × Nat) (hblk : w.heap[H]? = some (.cells (m.map u8v).toArray 5 fr)) (hm : 0 < n) (hlen : l.length + n ≤ 100000000000) (hB : B ≤ w.heap.size)
    (h : ∀ v' w', owns w' B v' (l ++ m) → Below B w w' → K (a.put o.dst v') w') :
    if Region.wanted o (yielded ops a.tmps) = true then Oper.wp Tryz.prog o a w K Q else E := by
  obtain ⟨i0, hi, hz0, hz1, hz2⟩ := info_parts Tryz.info5
  subst hn
  refine step_append_lies _ hgd s x 89 ho B 5 i0 (.int .u8 0) 1 1 Tryz.underlying89 hi hz0 hz1 hz2 rfl (by omega) v l.length (l.map u8v) hs hown ⟨H, 0, none⟩ m.length m.length (m.map u8v) hx (by simp)
    (fun j u hu => World.news_of_block hblk j u (by simpa using hu)) (by intro u hu; simp at hu; obtain ⟨c, _, rfl⟩ := hu; rfl) hm (by unfold maxLen; omega) (by omega) hB w.heap.size rfl ?_
  intro g cap w' h1 h2 _ _
  exact h _ w' (by simpa [owns] using h1) ((Below.refl B w).grown h2 hB hown.lt)

theorem owns.conv {w : World} {B : Nat} {v : Value} {l : List UInt8} (h : owns w B v l) : (convert 89 9 v).run Tryz.prog w = .ok (.string ⟨l.toArray⟩) w := by
  have h' := h
  obtain ⟨_, ⟨rfl, hn⟩ | ⟨g, cap, cur, rfl, _⟩⟩ := h'
  · have : l = [] := List.eq_nil_of_length_eq_zero hn
    subst this
    rw [run_convert_bytes_string w 89 9 5 none 0 0 Tryz.underlying89 Tryz.underlying5 Tryz.underlying9]
    rfl
  · refine run_convert_bytes_back w 89 9 5 ⟨g, 0, none⟩ cap l Tryz.underlying89 Tryz.underlying5 Tryz.underlying9 fun j hj => ?_
    exact World.ownsRow.cells h (g := g) rfl j _ (by simp [u8v, hj])

theorem ret_str {a b : List UInt8} (h : a = b) : Ending.returned (.string ⟨a.toArray⟩) = .returned (.string ⟨b.toArray⟩) := by rw [h]
end Go.Proofs.YtinnliapfdpfpaaGreatDoor.C
namespace Go.Proofs.YtinnliapfdpfpaaGreatDoor.C
open Go.RowKit
/-- What the reader gives up with. -/
def noC : List PanicEntry := [{ v := .iface 371 (.agg #[]), recovered := false }]
def rest (l : List UInt8) : Value := .string ⟨l.toArray⟩
set_option maxHeartbeats 400000 in
theorem next_ok (b : Nat) (l : List UInt8) (c : UInt8) (w : World) (hc : w.cell? ⟨b, 0, none⟩ = some (rest (c :: l))) (hf : w.frozen? ⟨b, 0, none⟩ = false)
   (_hl : (c :: l).length ≤ 4000000000) :
    Calls Tryz.prog 299 #[.pointer (some ⟨b, 0, none⟩)] w fun e w' => e = .returned (.int .u8 c.toNat) ∧ w' = w.setCell ⟨b, 0, none⟩ (rest l) := by
  unfold rest at *
  have E : (⟨(c :: l).toArray⟩ : ByteArray).extract 1 (l.length + 1) = ⟨l.toArray⟩ := by
    apply ByteArray.ext; simp
  have HE : Hid ((⟨(c :: l).toArray⟩ : ByteArray).extract 1 (l.length + 1) = ⟨l.toArray⟩) := E
  clear E
  go_enter Tryz.func299, Tryz.ntmps299
  go_wp2
  go_ret
  exact ⟨rfl, by rw [HE.out]⟩
set_option maxHeartbeats 400000 in
theorem next_no (b : Nat) (w : World) (hc : w.cell? ⟨b, 0, none⟩ = some (rest [])) :
    Calls Tryz.prog 299 #[.pointer (some ⟨b, 0, none⟩)] w fun e w' => e = .panicked noC ∧ w' = w := by
  unfold rest at *
  go_enter Tryz.func299, Tryz.ntmps299
  go_wp2
  exact ⟨rfl, rfl, rfl⟩

theorem digV_lo {b : Int} (h : 0 ≤ digV b) : (48 ≤ b ∧ b ≤ 57) ∨ (65 ≤ b ∧ b ≤ 70) ∨ (97 ≤ b ∧ b ≤ 102) := by
  unfold digV at h; split at h <;> (try split at h) <;> (try split at h) <;> omega
theorem digV_a {b : Int} (h : 48 ≤ b ∧ b ≤ 57) : digV b = b - 48 := by unfold digV; rw [if_pos h]
theorem digV_b {b : Int} (h : 65 ≤ b ∧ b ≤ 70) : digV b = b - 55 := by unfold digV; rw [if_neg (by omega), if_pos h]
theorem digV_c {b : Int} (h : 97 ≤ b ∧ b ≤ 102) : digV b = b - 87 := by unfold digV; rw [if_neg (by omega), if_neg (by omega), if_pos h]

set_option maxHeartbeats 400000 in
theorem readDigit_ok (b : Nat) (l : List UInt8) (c : UInt8) (w : World) (hc : w.cell? ⟨b, 0, none⟩ = some (rest (c :: l))) (hf : w.frozen? ⟨b, 0, none⟩ = false)
   (hl : (c :: l).length ≤ 4000000000) (hd : 0 ≤ digV (c.toNat : Int)) :
    Calls Tryz.prog 300 #[.pointer (some ⟨b, 0, none⟩)] w fun e w' => e = .returned (.int .u8 (digV (c.toNat : Int))) ∧ w' = w.setCell ⟨b, 0, none⟩ (rest l) := by
  have hb := c.toNat_lt
  rcases digV_lo hd with h | h | h
  · rw [digV_a h]
    obtain ⟨ha, hb'⟩ := h
    clear hd
    go_enter Tryz.func300, Tryz.ntmps300
    go_wp2_with (go_at_call 299; refine (next_ok b l c _ hc hf hl).mono ?_; rintro e w' ⟨rfl, rfl⟩)
    go_ret
    exact ⟨ret_int (by omega), rfl⟩
  · rw [digV_b h]
    obtain ⟨ha, hb'⟩ := h
    clear hd
    go_enter Tryz.func300, Tryz.ntmps300
    go_wp2_with (go_at_call 299; refine (next_ok b l c _ hc hf hl).mono ?_; rintro e w' ⟨rfl, rfl⟩)
    go_ret
    exact ⟨ret_int (by omega), rfl⟩
  · rw [digV_c h]
    obtain ⟨ha, hb'⟩ := h
    clear hd
    go_enter Tryz.func300, Tryz.ntmps300
    go_wp2_with (go_at_call 299; refine (next_ok b l c _ hc hf hl).mono ?_; rintro e w' ⟨rfl, rfl⟩)
    go_ret
    exact ⟨ret_int (by omega), rfl⟩
theorem digV_hi {b : Int} (h : digV b < 0) : ¬ (48 ≤ b ∧ b ≤ 57) ∧ ¬ (65 ≤ b ∧ b ≤ 70) ∧ ¬ (97 ≤ b ∧ b ≤ 102) := by
  unfold digV at h; split at h <;> (try split at h) <;> (try split at h) <;> omega
set_option maxHeartbeats 400000 in
theorem readDigit_bad (b : Nat) (l : List UInt8) (c : UInt8) (w : World) (hc : w.cell? ⟨b, 0, none⟩ = some (rest (c :: l))) (hf : w.frozen? ⟨b, 0, none⟩ = false)
   (hl : (c :: l).length ≤ 4000000000) (hd : digV (c.toNat : Int) < 0) :
    Calls Tryz.prog 300 #[.pointer (some ⟨b, 0, none⟩)] w fun e w' => e = .panicked noC ∧ w' = w.setCell ⟨b, 0, none⟩ (rest l) := by
  have hb := c.toNat_lt
  obtain ⟨h1, h2, h3⟩ := digV_hi hd
  clear hd
  have H1 : Hid (¬ (48 ≤ (c.toNat : Int) ∧ (c.toNat : Int) ≤ 57)) := h1
  have H2 : Hid (¬ (65 ≤ (c.toNat : Int) ∧ (c.toNat : Int) ≤ 70)) := h2
  have H3 : Hid (¬ (97 ≤ (c.toNat : Int) ∧ (c.toNat : Int) ≤ 102)) := h3
  clear h1 h2 h3
  go_enter Tryz.func300, Tryz.ntmps300
  go_wp2_with (go_at_call 299; refine (next_ok b l c _ hc hf hl).mono ?_; rintro e w' ⟨rfl, rfl⟩)
  all_goals first | exact ⟨rfl, rfl, rfl⟩ | (exfalso; have k1 := H1.out; have k2 := H2.out; have k3 := H3.out; omega)
set_option maxHeartbeats 400000 in
theorem readDigit_no (b : Nat) (w : World) (hc : w.cell? ⟨b, 0, none⟩ = some (rest [])) :
    Calls Tryz.prog 300 #[.pointer (some ⟨b, 0, none⟩)] w fun e w' => e = .panicked noC ∧ w' = w := by
  go_enter Tryz.func300, Tryz.ntmps300
  go_wp2_with (go_at_call 299; refine (next_no b _ hc).mono ?_; rintro e w' ⟨rfl, rfl⟩)
  exact ⟨rfl, rfl, rfl⟩
end Go.Proofs.YtinnliapfdpfpaaGreatDoor.C
