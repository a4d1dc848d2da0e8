/-
  THE PLAIN MATHEMATICS OF POLICIES: rules of a JSON value, what they say. It imports nothing of the program.
-/
import Derived.Test.YtinnliapfdpfpaaDoorPJson
import Derived.Test.YtinnliapfdpfpaaDoorPFits
namespace Go.Proofs.YtinnliapfdpfpaaDoor.P

structure RuleP where
  deny : Bool
  who : List (List UInt8)
  act : List (List UInt8)
  on : List (List UInt8)

def strJ : J → Option (List UInt8)
  | .str s => some s
  | _ => none
def strsJ : List J → Option (List (List UInt8))
  | [] => some []
  | j :: l => match strJ j with
    | none => none
    | some s => (strsJ l).map (s :: ·)
def textsJ : J → Option (List (List UInt8))
  | .arr l => if 1 ≤ l.length ∧ l.length ≤ 4 then strsJ l else none
  | _ => none
def findM (l : List (List UInt8 × J)) (n : List UInt8) : Option J := match l with
  | [] => none
  | (m, j) :: l => if m = n then some j else findM l n
def lcB (b : UInt8) : Bool := decide (97 ≤ b.toNat ∧ b.toNat ≤ 122) || decide (48 ≤ b.toNat ∧ b.toNat ≤ 57)
def nameP (s : List UInt8) : Bool := s.all lcB && decide (1 ≤ s.length ∧ s.length ≤ 12)
def sEffect : List UInt8 := [101, 102, 102, 101, 99, 116]
def sWho : List UInt8 := [119, 104, 111]
def sDo : List UInt8 := [100, 111]
def sOn : List UInt8 := [111, 110]
def sRules : List UInt8 := [114, 117, 108, 101, 115]
def sAllow : List UInt8 := [97, 108, 108, 111, 119]
def sDeny : List UInt8 := [100, 101, 110, 121]
def sAll : List UInt8 := [42]
def sGet : List UInt8 := [103, 101, 116]
def sPut : List UInt8 := [112, 117, 116]
def sDelete : List UInt8 := [100, 101, 108, 101, 116, 101]
def sList : List UInt8 := [108, 105, 115, 116]
def sPolicy : List UInt8 := [112, 111, 108, 105, 99, 121]
def acts : List (List UInt8) := [sGet, sPut, sDelete, sList, sPolicy, sAll]
def whoP (s : List UInt8) : Bool := s == sAll || nameP s
def actP (s : List UInt8) : Bool := acts.contains s
def effJ (j : J) : Option Bool := match strJ j with
  | none => none
  | some s => if s = sAllow then some false else if s = sDeny then some true else none
def goodJ (f : List UInt8 → Bool) (j : J) : Option (List (List UInt8)) := match textsJ j with
  | none => none
  | some l => if l.all f then some l else none
def ruleJ : J → Option RuleP
  | .obj l => if l.length = 4 then
      match findM l sEffect with
      | none => none
      | some e => match effJ e with
        | none => none
        | some d => match findM l sWho with
          | none => none
          | some w => match goodJ whoP w with
            | none => none
            | some w => match findM l sDo with
              | none => none
              | some a => match goodJ actP a with
                | none => none
                | some a => match findM l sOn with
                  | none => none
                  | some o => match goodJ (fun _ => true) o with
                    | none => none
                    | some o => some ⟨d, w, a, o⟩
    else none
  | _ => none
def rulesJ : List J → Option (List RuleP)
  | [] => some []
  | j :: l => match ruleJ j with
    | none => none
    | some r => (rulesJ l).map (r :: ·)
def policyJ : J → Option (List RuleP)
  | .obj l => if l.length = 1 then match findM l sRules with
      | some (.arr k) => if k.length ≤ 4 then rulesJ k else none
      | _ => none
    else none
  | _ => none
/-- 0, or which error. -/
def rulesOf (s : List UInt8) : Int × List RuleP :=
  if 300 < s.length then (1, []) else match readJ s with
    | none => (2, [])
    | some j => match policyJ j with
      | none => (3, [])
      | some l => (0, l)
def inL (l : List (List UInt8)) (s : List UInt8) : Bool := l.contains s || l.contains sAll
def speaksP (r : RuleP) (u a k : List UInt8) : Bool := inL r.who u && inL r.act a && r.on.any (like · k)
def saysP (l : List RuleP) (u a k : List UInt8) : Int :=
  if l.any (fun r => r.deny && speaksP r u a k) then 2 else if l.any (fun r => speaksP r u a k) then 1 else 0

/-- How often a name is there. -/
def cntM (l : List (List UInt8 × J)) (n : List UInt8) : Nat := (l.filter (fun p => p.1 == n)).length
theorem cntM_nil (n : List UInt8) : cntM [] n = 0 := rfl
theorem cntM_cons (p : List UInt8 × J) (l : List (List UInt8 × J)) (n : List UInt8) : cntM (p :: l) n = (if p.1 = n then 1 else 0) + cntM l n := by
  unfold cntM
  by_cases h : p.1 = n
  · simp [List.filter, h]; omega
  · have : (p.1 == n) = false := by simpa using h
    simp [List.filter, this, h]
theorem cntM_snoc (p : List UInt8 × J) (l : List (List UInt8 × J)) (n : List UInt8) : cntM (l ++ [p]) n = cntM l n + (if p.1 = n then 1 else 0) := by
  unfold cntM
  rw [List.filter_append, List.length_append]
  by_cases h : p.1 = n
  · simp [List.filter, h]
  · have : (p.1 == n) = false := by simpa using h
    simp [List.filter, this, h]
theorem find_none_iff : ∀ (l : List (List UInt8 × J)) (n : List UInt8), findM l n = none ↔ cntM l n = 0
  | [], n => by simp [findM, cntM_nil]
  | (m, j) :: l, n => by
    rw [cntM_cons]
    by_cases h : m = n
    · simp [findM, h]
    · simp [findM, h, find_none_iff l n]
theorem four_names (a b c d : List UInt8) (hab : a ≠ b) (hac : a ≠ c) (had : a ≠ d) (hbc : b ≠ c) (hbd : b ≠ d) (hcd : c ≠ d) : ∀ l : List (List UInt8 × J), cntM l a + cntM l b + cntM l c + cntM l d ≤ l.length
  | [] => by simp [cntM_nil]
  | (m, j) :: l => by
    have ih := four_names a b c d hab hac had hbc hbd hcd l
    simp only [cntM_cons, List.length_cons]
    by_cases h1 : m = a
    · subst h1; simp [hab, hac, had]; omega
    · by_cases h2 : m = b
      · subst h2; simp [h1, hbc, hbd]; omega
      · by_cases h3 : m = c
        · subst h3; simp [h1, h2, hcd]; omega
        · by_cases h4 : m = d
          · subst h4; simp [h1, h2, h3]; omega
          · simp [h1, h2, h3, h4]; omega
theorem cnt_le (n : List UInt8) : ∀ l : List (List UInt8 × J), cntM l n ≤ l.length := by
  intro l; unfold cntM; exact List.length_filter_le _ _
/-- The four names of a rule: each is there, among four members: so each once. -/
theorem names_once {l : List (List UInt8 × J)} (h4 : l.length = 4) (h1 : findM l sEffect ≠ none) (h2 : findM l sWho ≠ none) (h3 : findM l sDo ≠ none) (h5 : findM l sOn ≠ none) :
    cntM l sEffect = 1 ∧ cntM l sWho = 1 ∧ cntM l sDo = 1 ∧ cntM l sOn = 1 := by
  have a := four_names sEffect sWho sDo sOn (by decide) (by decide) (by decide) (by decide) (by decide) (by decide) l
  rw [Ne, find_none_iff] at h1 h2 h3 h5
  omega
end Go.Proofs.YtinnliapfdpfpaaDoor.P
