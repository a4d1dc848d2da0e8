/-
  THE DOCUMENT's POLICIES: a rule with four members, as plain mathematics; its members, as the walk asks for them.
-/
import Derived.Test.YtinnliapfdpfpaaDoorQCnt
import Derived.Test.YtinnliapfdpfpaaDoorQSpk
import Derived.Test.YtinnliapfdpfpaaDoorQName
namespace Go.Proofs.YtinnliapfdpfpaaDoor.P
open Go.RowKit

/-- The four members of a rule. -/
structure Four (l : List (List UInt8 × J)) (je jw jd jo : J) : Prop where
  len : l.length = 4
  fe : findM l sEffect = some je
  fw : findM l sWho = some jw
  fd : findM l sDo = some jd
  fo : findM l sOn = some jo
theorem Four.is {l : List (List UInt8 × J)} {je jw jd jo : J} (h : Four l je jw jd jo) : ruleJ (.obj l) = match effJ je with
    | none => none
    | some d => match goodJ whoP jw with
      | none => none
      | some w => match goodJ actP jd with
        | none => none
        | some a => match goodJ (fun _ => true) jo with
          | none => none
          | some o => some ⟨d, w, a, o⟩ := by
  rw [ruleJ_is, show objN 4 (.obj l) = some l from if_pos h.len]
  show ruleL l = _
  unfold ruleL
  rw [h.fe, h.fw, h.fd, h.fo]
  rfl
theorem good_none {f : List UInt8 → Bool} {j : J} (h : textsJ j = none) : goodJ f j = none := by unfold goodJ; rw [h]
theorem good_bad {f : List UInt8 → Bool} {j : J} {l : List (List UInt8)} (h : textsJ j = some l) (hf : l.all f = false) : goodJ f j = none := by unfold goodJ; rw [h]; simp only; rw [hf]; rfl
theorem good_some {f : List UInt8 → Bool} {j : J} {l : List (List UInt8)} (h : textsJ j = some l) (hf : l.all f = true) : goodJ f j = some l := by unfold goodJ; rw [h]; simp only; rw [hf]; rfl
theorem Four.noE {l : List (List UInt8 × J)} {je jw jd jo : J} (h : Four l je jw jd jo) (he : effJ je = none) : ruleJ (.obj l) = none := by rw [h.is, he]
theorem Four.noW {l : List (List UInt8 × J)} {je jw jd jo : J} (h : Four l je jw jd jo) (he : goodJ whoP jw = none) : ruleJ (.obj l) = none := by
  rw [h.is]; cases effJ je with
  | none => rfl
  | some d => simp only; rw [he]
theorem Four.noD {l : List (List UInt8 × J)} {je jw jd jo : J} (h : Four l je jw jd jo) (he : goodJ actP jd = none) : ruleJ (.obj l) = none := by
  rw [h.is]; cases effJ je with
  | none => rfl
  | some d =>
    simp only
    cases goodJ whoP jw with
    | none => rfl
    | some w => simp only; rw [he]
theorem Four.noO {l : List (List UInt8 × J)} {je jw jd jo : J} (h : Four l je jw jd jo) (he : goodJ (fun _ => true) jo = none) : ruleJ (.obj l) = none := by
  rw [h.is]; cases effJ je with
  | none => rfl
  | some d =>
    simp only
    cases goodJ whoP jw with
    | none => rfl
    | some w =>
      simp only
      cases goodJ actP jd with
      | none => rfl
      | some a => simp only; rw [he]
theorem Four.yes {l : List (List UInt8 × J)} {je jw jd jo : J} (h : Four l je jw jd jo) {d : Bool} {w a o : List (List UInt8)} (he : effJ je = some d) (hw : goodJ whoP jw = some w) (ha : goodJ actP jd = some a) (ho : goodJ (fun _ => true) jo = some o) : ruleJ (.obj l) = some ⟨d, w, a, o⟩ := by
  rw [h.is, he]; simp only; rw [hw]; simp only; rw [ha]; simp only; rw [ho]
theorem eff_deny {j : J} (h : j = .str sDeny) : effJ j = some true := by subst h; rfl
theorem eff_allow {j : J} (h : j = .str sAllow) : effJ j = some false := by subst h; rfl
theorem eff_other {j : J} {s : List UInt8} (h : j = .str s) (h1 : ¬ s = sAllow) (h2 : ¬ s = sDeny) : effJ j = none := by
  subst h
  show (if s = sAllow then some false else if s = sDeny then some true else none : Option Bool) = none
  rw [if_neg h1, if_neg h2]
theorem eff_not {j : J} (h : ¬ kindJ j = 34) : effJ j = none := by unfold effJ; rw [str_not h]
theorem texts_len {j : J} {l : List (List UInt8)} (h : textsJ j = some l) : l.length ≤ 4 := by
  cases j with
  | arr m =>
    by_cases hm : 1 ≤ m.length ∧ m.length ≤ 4
    · rw [textsJ_arr hm] at h
      have : ∀ (m : List J) (l : List (List UInt8)), strsJ m = some l → l.length = m.length := by
        intro m
        induction m with
        | nil => intro l h; simp [strsJ] at h; subst h; rfl
        | cons x m ih =>
          intro l h
          simp only [strsJ] at h
          cases hx : strJ x with
          | none => rw [hx] at h; cases h
          | some s =>
            rw [hx] at h; simp only at h
            cases hm : strsJ m with
            | none => rw [hm] at h; cases h
            | some a => rw [hm] at h; simp only [Option.map_some, Option.some.injEq] at h; subst h; simp [ih a hm]
      rw [this m l h]; exact hm.2
    · rw [textsJ_out hm] at h; cases h
  | _ => cases h
/-- A member, in an object of four. -/
theorem mem_is (b : Nat) (M : List Nd) (n : Nat) (nd : Nd) (l : List (List UInt8 × J)) (nm : List UInt8) (x : Bool) (i : Nat) (w : World) (hT : TV b M w) (hn : M[n]? = some nd) (hk : nd.kind = 123) (hnm : nd.names = l.map (·.1)) (hkl : nd.kids.length = l.length) (h4 : l.length = 4)
    (hx : (cntM l nm == 1) = x) (hi : (memAt nd.names nd.kids nm nd.names.length).1 = i) :
    Calls Tryd.prog 59 #[.pointer (some ⟨b, 0, none⟩), .int .i64 (n : Int), str nm] w fun e w' => e = .returned (.tuple #[.int .i64 (i : Int), .bool x]) ∧ Below w.heap.size w w' := by
  have hc : (memAt nd.names nd.kids nm nd.names.length).2 = cntM l nm := by rw [hnm]; exact cnt_all nd.kids nm
  refine (member_any b M n nd nm w hT hn (by rw [hnm, List.length_map]; omega) (by rw [hnm, List.length_map]; omega)).mono ?_
  rintro e w' ⟨rfl, hb⟩
  refine ⟨?_, hb⟩
  rw [hi, hc, hk, hx]
  rfl
end Go.Proofs.YtinnliapfdpfpaaDoor.P
