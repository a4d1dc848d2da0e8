/-
  THE PLAIN MATHEMATICS OF CODES: bytes that stand for themselves, digits, the code of a text, the text of a code. It imports nothing of the program.
-/
namespace Go.Proofs.YtaeabbmekmjcaaaGreatDoor.C

/-- Does a byte stand for itself? -/
def plainB (b : Int) (p : Bool) : Bool :=
  decide (97 ≤ b ∧ b ≤ 122) || decide (65 ≤ b ∧ b ≤ 90) || decide (48 ≤ b ∧ b ≤ 57) || b == 45 || b == 46 || b == 95 || b == 126 || (p && b == 47)

/-- A hexadecimal digit's value (-1: it is none). -/
def digV (b : Int) : Int :=
  if 48 ≤ b ∧ b ≤ 57 then b - 48 else if 65 ≤ b ∧ b ≤ 70 then b - 55 else if 97 ≤ b ∧ b ≤ 102 then b - 87 else -1

/-- The digit of a value below 16. -/
def hexD (n : Nat) : UInt8 := if n < 10 then UInt8.ofNat (48 + n) else UInt8.ofNat (55 + n)

def enc1 (p : Bool) (c : UInt8) : List UInt8 :=
  if plainB (c.toNat : Int) p then [c] else [37, hexD (c.toNat / 16), hexD (c.toNat % 16)]

def enc (p : Bool) (l : List UInt8) : List UInt8 := l.flatMap (enc1 p)

/-- One byte of a code's text: the byte and what is left; none: no code. -/
def dec1 (p : Bool) : List UInt8 → Option (UInt8 × List UInt8)
  | [] => none
  | c :: r =>
    if plainB (c.toNat : Int) p then some (c, r)
    else if c.toNat = 37 then
      match r with
      | a :: b :: t => if 0 ≤ digV (a.toNat : Int) ∧ 0 ≤ digV (b.toNat : Int) then some (UInt8.ofNat (16 * digV (a.toNat : Int) + digV (b.toNat : Int)).toNat, t) else none
      | _ => none
    else none

theorem dec1_len {p : Bool} {l : List UInt8} {c : UInt8} {r : List UInt8} (h : dec1 p l = some (c, r)) : r.length < l.length := by
  unfold dec1 at h
  split at h
  · simp at h
  · split at h
    · simp at h; obtain ⟨_, rfl⟩ := h; simp
    · split at h
      · split at h
        · split at h
          · simp at h; obtain ⟨_, rfl⟩ := h; simp; omega
          · simp at h
        · simp at h
      · simp at h

/-- The text of a code, by so many rounds. -/
def decN (p : Bool) : Nat → List UInt8 → Option (List UInt8)
  | 0, _ => none
  | _ + 1, [] => some []
  | n + 1, l@(_ :: _) => match dec1 p l with
    | none => none
    | some (c, r) => (decN p n r).map (c :: ·)

def dec (p : Bool) (l : List UInt8) : Option (List UInt8) := decN p (l.length + 1) l

theorem decN_more (p : Bool) : ∀ (n m : Nat) (l : List UInt8), l.length < n → l.length < m → decN p n l = decN p m l := by
  intro n
  induction n with
  | zero => intro m l h; omega
  | succ n ih =>
    intro m l hn hm
    obtain ⟨m, rfl⟩ : ∃ k, m = k + 1 := ⟨m - 1, by omega⟩
    match l with
    | [] => rfl
    | x :: l' =>
      simp only [decN]
      cases hd : dec1 p (x :: l') with
      | none => rfl
      | some cr =>
        obtain ⟨c, r⟩ := cr
        have := dec1_len hd
        simp only
        rw [ih m r (by omega) (by omega)]

theorem dec_nil (p : Bool) : dec p [] = some [] := rfl
theorem dec_none {p : Bool} {l : List UInt8} (hl : l ≠ []) (h : dec1 p l = none) : dec p l = none := by
  match l, hl with
  | x :: l', _ => simp only [dec, decN, h]
theorem dec_some {p : Bool} {l : List UInt8} {c : UInt8} {r : List UInt8} (h : dec1 p l = some (c, r)) : dec p l = (dec p r).map (c :: ·) := by
  have hlen := dec1_len h
  match l with
  | [] => simp [dec1] at h
  | x :: l' =>
    simp only [dec, List.length_cons, decN, h]
    rw [decN_more p (l'.length + 1) (r.length + 1) r (by simp at hlen; omega) (by omega)]

theorem dec1_nil (p : Bool) : dec1 p [] = none := rfl
theorem dec1_plain {p : Bool} {c : UInt8} (r : List UInt8) (h : plainB (c.toNat : Int) p = true) : dec1 p (c :: r) = some (c, r) := by
  simp [dec1, h]
theorem plain37 (p : Bool) : plainB 37 p = false := by cases p <;> decide
theorem dec1_odd {p : Bool} {c : UInt8} (r : List UInt8) (h : plainB (c.toNat : Int) p = false) (hc : ¬ c.toNat = 37) : dec1 p (c :: r) = none := by
  simp [dec1, h, hc]
theorem dec1_pct {p : Bool} {c a b : UInt8} (t : List UInt8) (hc : c.toNat = 37) (ha : 0 ≤ digV (a.toNat : Int)) (hb : 0 ≤ digV (b.toNat : Int)) :
    dec1 p (c :: a :: b :: t) = some (UInt8.ofNat (16 * digV (a.toNat : Int) + digV (b.toNat : Int)).toNat, t) := by
  simp [dec1, hc, plain37, ha, hb]
theorem dec1_pctA {p : Bool} {c a : UInt8} (t : List UInt8) (hc : c.toNat = 37) (ha : digV (a.toNat : Int) < 0) : dec1 p (c :: a :: t) = none := by
  cases t with
  | nil => simp [dec1, hc, plain37]
  | cons b t => have : ¬ 0 ≤ digV (a.toNat : Int) := by omega
                simp [dec1, hc, plain37, this]
theorem dec1_pctB {p : Bool} {c a b : UInt8} (t : List UInt8) (hc : c.toNat = 37) (hb : digV (b.toNat : Int) < 0) : dec1 p (c :: a :: b :: t) = none := by
  have : ¬ 0 ≤ digV (b.toNat : Int) := by omega
  simp [dec1, hc, plain37, this]
theorem dec1_pct0 {p : Bool} {c : UInt8} (hc : c.toNat = 37) : dec1 p [c] = none := by simp [dec1, hc, plain37]
theorem dec1_pct1 {p : Bool} {c a : UInt8} (hc : c.toNat = 37) : dec1 p [c, a] = none := by simp [dec1, hc, plain37]

theorem digV_bd (b : Int) : -1 ≤ digV b ∧ digV b ≤ 15 := by unfold digV; split <;> (try split) <;> (try split) <;> omega

theorem hexD_toNat (n : Nat) (h : n < 16) : (hexD n).toNat = if n < 10 then 48 + n else 55 + n := by
  unfold hexD; split <;> simp <;> omega
theorem digV_hexD (n : Nat) (h : n < 16) : digV ((hexD n).toNat : Int) = n := by
  rw [hexD_toNat n h]; unfold digV; split <;> (try split) <;> (try split) <;> (try split) <;> omega

theorem enc_nil (p : Bool) : enc p [] = [] := rfl
theorem enc_cons (p : Bool) (c : UInt8) (l : List UInt8) : enc p (c :: l) = enc1 p c ++ enc p l := by simp [enc]
theorem enc_snoc (p : Bool) (l : List UInt8) (c : UInt8) : enc p (l ++ [c]) = enc p l ++ enc1 p c := by simp [enc]
theorem enc1_len (p : Bool) (c : UInt8) : 1 ≤ (enc1 p c).length ∧ (enc1 p c).length ≤ 3 := by unfold enc1; split <;> simp
theorem enc_len (p : Bool) : ∀ l : List UInt8, l.length ≤ (enc p l).length ∧ (enc p l).length ≤ 3 * l.length := by
  intro l
  induction l with
  | nil => simp [enc_nil]
  | cons c l ih => have := enc1_len p c; rw [enc_cons]; simp; omega

theorem byte_div (c : UInt8) : UInt8.ofNat (16 * (c.toNat / 16 : Nat) + (c.toNat % 16 : Nat) : Int).toNat = c := by
  have e : (16 * (c.toNat / 16 : Nat) + (c.toNat % 16 : Nat) : Int).toNat = c.toNat := by omega
  rw [e]; simp

theorem dec1_enc1 (p : Bool) (c : UInt8) (r : List UInt8) : dec1 p (enc1 p c ++ r) = some (c, r) := by
  unfold enc1
  by_cases h : plainB (c.toNat : Int) p = true
  · simp only [h, if_true, List.cons_append, List.nil_append]; exact dec1_plain r h
  · have h' : plainB (c.toNat : Int) p = false := by simpa using h
    simp only [h', Bool.false_eq_true, if_false, List.cons_append, List.nil_append]
    have hb := c.toNat_lt
    have e1 := digV_hexD (c.toNat / 16) (by omega)
    have e2 := digV_hexD (c.toNat % 16) (by omega)
    rw [dec1_pct r rfl (by rw [e1]; omega) (by rw [e2]; omega), e1, e2, byte_div]

/-- What is coded is told again. -/
theorem dec_enc (p : Bool) : ∀ l : List UInt8, dec p (enc p l) = some l := by
  intro l
  induction l with
  | nil => rfl
  | cons c l ih => rw [enc_cons, dec_some (dec1_enc1 p c (enc p l)), ih]; rfl

theorem dec1_short {p : Bool} {l : List UInt8} {c : UInt8} {r : List UInt8} (h : dec1 p l = some (c, r)) : (enc1 p c).length + r.length ≤ l.length := by
  unfold dec1 at h
  split at h
  · simp at h
  · split at h
    · rename_i hp
      simp at h; obtain ⟨rfl, rfl⟩ := h; simp [enc1, hp]; omega
    · split at h
      · split at h
        · split at h
          · simp at h; obtain ⟨_, rfl⟩ := h; have := (enc1_len p c).2; simp; omega
          · simp at h
        · simp at h
      · simp at h

theorem decN_short (p : Bool) : ∀ (n : Nat) (l t : List UInt8), decN p n l = some t → (enc p t).length ≤ l.length := by
  intro n
  induction n with
  | zero => intro l t h; simp [decN] at h
  | succ n ih =>
    intro l t h
    match l with
    | [] => simp [decN] at h; subst h; simp [enc_nil]
    | x :: l' =>
      simp only [decN] at h
      cases hd : dec1 p (x :: l') with
      | none => simp [hd] at h
      | some cr =>
        obtain ⟨c, r⟩ := cr
        simp only [hd, Option.map_eq_some_iff] at h
        obtain ⟨t', ht', rfl⟩ := h
        have := ih r t' ht'
        have := dec1_short hd
        rw [enc_cons]; simp at *; omega

/-- No code is shorter than the one that 'enc' tells. -/
theorem dec_short {p : Bool} {l t : List UInt8} (h : dec p l = some t) : (enc p t).length ≤ l.length := decN_short p _ l t h

end Go.Proofs.YtaeabbmekmjcaaaGreatDoor.C
