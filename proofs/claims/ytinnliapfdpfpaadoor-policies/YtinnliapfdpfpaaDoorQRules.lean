/-
  THE DOCUMENT's POLICIES: all rules of a policy.
-/
import Derived.Test.YtinnliapfdpfpaaDoorQRule
namespace Go.Proofs.YtinnliapfdpfpaaDoor.P
open Go.RowKit
open Go.Proofs.YtinnliapfdpfpaaDoor.C (ret_bool ret_int ret_str)

theorem Tryd.infoQR : (Tryd.prog.info? 109).map (fun i => (i.zero, i.size, i.bytes)) = some (some (.agg #[.bool false, .slice none 0 0, .slice none 0 0, .slice none 0 0]), 4, 80) := by kernel_rfl
theorem qrapp_law {w : World} {ops : Array Oper} {rest : List Oper} {o : Oper} {a : Act} {Q : Exit → Act → World → Prop} (hgd : o.guard = none) (s x : Operand)
    (ho : o.op = .call { callee := .builtin .append, args := #[s, x], argTypes := #[68, 68] })
    (B n : Nat) (us : List Value) (q : QuadQ) (h1 : q.2.1.oneCell' = true) (h2 : q.2.2.1.oneCell' = true) (h3 : q.2.2.2.oneCell' = true) (v : Value) (hs : a.eval s = v) (hown : w.ownsRow B 109 4 v n us) (H : Nat) (hx : a.eval x = .slice (some ⟨H, 0, none⟩) 1 1)
    (fr : Nat × Nat) (hblk : w.heap[H]? = some (.cells (qqcells q).toArray 109 fr)) (hlen : n ≤ 1000000000) (hB : B ≤ w.heap.size)
    (h : ∀ g cap w', w'.ownsRow B 109 4 (.slice (some ⟨g, 0, none⟩) (n + 1) cap) (n + 1) (us ++ qqcells q) → w.grownBy w' v.ownBlock → (v.ownBlock = some g ∨ g = w.heap.size) → wpList Tryd.prog ops Q rest (a.put o.dst (.slice (some ⟨g, 0, none⟩) (n + 1) cap)) w') :
    wpList Tryd.prog ops Q (o :: rest) a w := by
  obtain ⟨i0, hi, hz0, hz1, hz2⟩ := info_parts Tryd.infoQR
  refine wpList_append_lies _ hgd s x 68 ho B 109 i0 (.agg #[.bool false, .slice none 0 0, .slice none 0 0, .slice none 0 0]) 4 80 Tryd.underlying68 hi hz0 hz1 hz2 rfl (by omega) v n us hs hown ⟨H, 0, none⟩ 1 1 (qqcells q) hx (by simp)
    (fun j u hu => World.news_of_block hblk j u (by simpa using hu)) (by intro y hy; simp at hy; rcases hy with e | e | e | e <;> rw [e] <;> first | exact h1 | exact h2 | exact h3 | rfl) (by omega) (by unfold maxLen; omega) (by omega) hB w.heap.size rfl ?_
  intro g cap w' h1 h2 h3 _
  exact h g cap w' h1 h2 h3
/-- The rules so far. -/
def QP (B : Nat) (lv : Value) (rs : List RuleP) (w : World) : Prop := ∃ us, w.ownsRow B 109 4 lv rs.length (rqcells us) ∧ all2 (relQ w (fun g => B ≤ g ∧ lv.ownBlock ≠ some g)) us rs
theorem QP.nil (B : Nat) (w : World) : QP B (.slice none 0 0) [] w := ⟨[], World.ownsRow_nil _ _ _ _, trivial⟩
theorem QP.push {B : Nat} {lv : Value} {rs : List RuleP} {w w1 wA w3 W : World} {us : List QuadQ} (ht : B ≤ w.heap.size) (hall : all2 (relQ w (fun g => B ≤ g ∧ lv.ownBlock ≠ some g)) us rs) (hrow : w.ownsRow B 109 4 lv rs.length (rqcells us))
    {u : QuadQ} {r : RuleP} (h1 : Below w.heap.size w w1) (hj : relQ w1 (fun g => w.heap.size ≤ g) u r) (hA : Below w1.heap.size w1 wA) {g cap : Nat}
    (h3 : w3.ownsRow B 109 4 (.slice (some ⟨g, 0, none⟩) (rs.length + 1) cap) (rs.length + 1) (rqcells us ++ qqcells u)) (h4 : wA.grownBy w3 lv.ownBlock) (h5 : lv.ownBlock = some g ∨ g = wA.heap.size)
    (hW : W.heap.size = B) (hb : Below W.heap.size W w) :
    QP B (.slice (some ⟨g, 0, none⟩) (rs.length + 1) cap) (rs ++ [r]) w3 ∧ Below W.heap.size W w3 := by
  have hs1 := h1.size; have hsA := hA.size; have hs4 := h4.size
  have hslB := fun g hg => (World.ownsRow.lt hrow g hg)
  have K1 : Kept (fun x => lv.ownBlock = some x) w w3 :=
    ((Kept.of_below h1).mono (T := fun x => lv.ownBlock = some x) (fun x hx e => by omega)).trans (Kept.of_below hA) (fun x hx e => by omega) |>.trans (Kept.of_grown h4) (fun x _ e => e)
  refine ⟨⟨us ++ [u], ?_, ?_⟩, ?_⟩
  · rw [List.length_append, show rqcells (us ++ [u]) = rqcells us ++ qqcells u by simp [rqcells]]; exact h3
  · refine all2_snoc ?_ ?_
    · have hj1 := hj.inb
      have K3 : Kept (fun x => lv.ownBlock = some x ∨ w1.heap.size ≤ x) w1 w3 :=
        ((Kept.of_below hA).mono (T := fun x => lv.ownBlock = some x ∨ w1.heap.size ≤ x) (fun _ _ e => Or.inr e)).trans (Kept.of_grown h4) (fun x _ e => Or.inl e)
      refine (hj1.kept K3 ?_).mono ?_
      · rintro x ⟨e1, e2⟩ (e | e)
        · have := (hslB _ e).2; omega
        · omega
      · rintro x ⟨e1, e2⟩
        refine ⟨by omega, fun e => ?_⟩
        simp [Value.ownBlock] at e
        subst e
        rcases h5 with e | e
        · have := (hslB _ e).2; omega
        · omega
    · refine all2_mono (fun u i hr => ?_) hall
      refine (hr.inb.kept K1 ?_).mono ?_
      · rintro x ⟨⟨e1, e2⟩, e3⟩ e
        exact e2 e
      · rintro x ⟨⟨e1, e2⟩, e3⟩
        refine ⟨e1, fun e => ?_⟩
        simp [Value.ownBlock] at e
        subst e
        rcases h5 with e | e
        · exact e2 e
        · omega
  · exact ((Kept.of_below hb).trans K1 (fun x hx e => by have := (hslB _ e).1; omega)).below (Nat.le_refl _) (fun k e => e)
theorem QP.policy {B : Nat} {lv : Value} {rs : List RuleP} {w : World} (h : QP B lv rs w) {C : Nat} (hC : C ≤ B) : qpolicyIn w (fun g => C ≤ g) lv rs := by
  obtain ⟨us, h1, h2⟩ := h
  exact ⟨us, row_mono h1, fun g e => by have := (World.ownsRow.lt h1 g e).1; omega, all2_mono (fun _ _ hr => hr.mono (fun g hg => by omega)) h2⟩
theorem read_bnd {s : List UInt8} {j : J} (hs : s.length ≤ 4000) (h : readJ s = some j) : bnd 7 j := by
  unfold readJ at h
  cases hv : val 7 s with
  | none => rw [hv] at h; cases h
  | some p =>
    obtain ⟨x, r⟩ := p
    rw [hv] at h
    simp only at h
    split at h
    · cases h; exact val_bnd 7 s _ r hs hv
    · cases h
theorem val_obj_len {k : Nat} {s : List UInt8} {l : List (List UInt8 × J)} {r : List UInt8} (h : val (k + 1) s = some (.obj l, r)) : l.length ≤ s.length := by
  rw [val] at h
  cases h1 : tak [123] s with
  | some r1 =>
    rw [h1] at h; simp only at h
    have := tak_len h1
    cases h2 : listOf (memOf (val k)) [125] r1 with
    | none => rw [h2] at h; cases h
    | some p =>
      rw [h2] at h; simp at h
      have := (listOf_len (memOf_shrinks (val_shrinks k)) (l := p.1) (r := p.2) h2).2
      obtain ⟨rfl, -⟩ := h; omega
  | none =>
    rw [h1] at h; simp only at h
    cases h2 : tak [91] s with
    | some r1 =>
      rw [h2] at h; simp only at h
      cases h3 : listOf (val k) [93] r1 with
      | none => rw [h3] at h; cases h
      | some p => rw [h3] at h; simp at h
    | none =>
      rw [h2] at h; simp only at h
      cases h3 : tak [34] s with
      | some r1 =>
        rw [h3] at h; simp only at h
        cases h4 : strOf r1 with
        | none => rw [h4] at h; cases h
        | some p => rw [h4] at h; simp at h
      | none =>
        rw [h3] at h; simp only at h
        cases h4 : tak tTrue s with
        | some r1 => rw [h4] at h; simp at h
        | none =>
          rw [h4] at h; simp only at h
          cases h5 : tak tFalse s with
          | some r1 => rw [h5] at h; simp at h
          | none =>
            rw [h5] at h; simp only at h
            cases h6 : tak tNull s with
            | some r1 => rw [h6] at h; simp at h
            | none => rw [h6] at h; cases h
theorem read_len {s : List UInt8} {l : List (List UInt8 × J)} (hs : s.length ≤ 4000) (h : readJ s = some (.obj l)) : l.length ≤ 4000 := by
  unfold readJ at h
  cases hv : val 7 s with
  | none => rw [hv] at h; cases h
  | some p =>
    obtain ⟨x, r⟩ := p
    rw [hv] at h
    simp only at h
    split at h
    · cases h; have := val_obj_len hv; omega
    · cases h
theorem names_kids {k : Nat} {M : List Nd} {nd : Nd} {j : J} {s : List UInt8} (hob : ∀ l, j = .obj l → nd.names = l.map (·.1) ∧ all2 (fun i (j : List UInt8 × J) => treeJ k M i j.2) nd.kids l) (hnob : (∀ l, j ≠ .obj l) → nd.names = []) (hj : readJ s = some j) (hs : s.length ≤ 4000) :
    nd.names.length ≤ nd.kids.length ∧ nd.names.length ≤ 100000 := by
  cases j with
  | obj l =>
    obtain ⟨h1, h2⟩ := hob l rfl
    have := all2_len h2
    have := read_len hs hj
    rw [h1, List.length_map]; omega
  | _ => rw [hnob (by intro l e; cases e)]; simp
theorem cnt_find {l : List (List UInt8 × J)} {nm : List UInt8} (h1 : l.length = 1) (hc : ¬ cntM l nm = 1) : findM l nm = none := by
  rw [find_none_iff]
  have := cnt_le nm l
  omega
/-- No policy: where the member is not there once. -/
theorem pol_none {l : List (List UInt8 × J)} (h : ¬ (l.length = 1 ∧ cntM l sRules = 1)) : policyJ (.obj l) = none := by
  rw [policyJ_is]
  by_cases h1 : l.length = 1
  · rw [show objN 1 (.obj l) = some l from if_pos h1]
    simp only
    rw [cnt_find h1 (fun e => h ⟨h1, e⟩)]
  · rw [show objN 1 (.obj l) = none from if_neg h1]
theorem pol_not {j : J} (h : ∀ l, j ≠ .obj l) : policyJ j = none := by
  cases j with
  | obj l => exact absurd rfl (h l)
  | _ => rfl
theorem pol_is {l : List (List UInt8 × J)} {jr : J} (h1 : l.length = 1) (hf : findM l sRules = some jr) : policyJ (.obj l) = match arrJ jr with
    | none => none
    | some k => if k.length ≤ 4 then rulesJ k else none := by
  rw [policyJ_is, show objN 1 (.obj l) = some l from if_pos h1]
  simp only
  rw [hf]
  rfl
theorem arr_not {j : J} (h : ¬ kindJ j = 91) : arrJ j = none := by cases j <;> first | rfl | exact absurd rfl h
def qrsPost (w : World) (x : Int × List RuleP) (e : Ending) (w' : World) : Prop :=
  Below w.heap.size w w' ∧ ∃ sl, e = .returned (.tuple #[sl, .int .i64 x.1]) ∧ qpolicyIn w' (fun g => w.heap.size ≤ g) sl x.2
theorem qpolicy_nil (w : World) (P : Nat → Prop) : qpolicyIn w P (.slice none 0 0) [] := ⟨[], World.ownsRow_nil _ _ _ _, (fun _ e => by cases e), trivial⟩
theorem qrsPost_no {w w' : World} {x : Int × List RuleP} {c : Int} (h : x = (c, [])) (hb : Below w.heap.size w w') : qrsPost w x (.returned (.tuple #[.slice none 0 0, .int .i64 c])) w' := by
  subst h; exact ⟨hb, _, rfl, qpolicy_nil _ _⟩
theorem qrsPost_ok {w w' : World} {x : Int × List RuleP} {rs : List RuleP} {sl : Value} (h : x = (0, rs)) (hb : Below w.heap.size w w') (hp : qpolicyIn w' (fun g => w.heap.size ≤ g) sl rs) : qrsPost w x (.returned (.tuple #[sl, .int .i64 0])) w' := by
  subst h; exact ⟨hb, sl, rfl, hp⟩
set_option maxHeartbeats 2000000 in
set_option maxRecDepth 20000 in
theorem qrules_any (s : List UInt8) (w : World) (hs : s.length ≤ 9223372036854775807) :
    Calls Tryd.prog 35 #[str s] w (qrsPost w (rulesOf s)) := by
  by_cases hlong : 300 < s.length
  · have HO : Hid (rulesOf s = (1, [])) := by show _ = _; unfold rulesOf; rw [if_pos hlong]
    have t1 : decide (300 < (s.length : Int)) = true := by simp; omega
    clear hlong
    go_enter Tryd.func35, Tryd.ntmps35
    go_wp2
    go_ret2
    exact qrsPost_no HO.out (Below.refl _ _)
  · have t1 : decide (300 < (s.length : Int)) = false := by simp; omega
    have hs3 : s.length ≤ 4000 := by omega
    have R : Hid (_) := qread_any s w hs3
    cases hj : readJ s with
    | none =>
      have HO : Hid (rulesOf s = (2, [])) := by show _ = _; unfold rulesOf; rw [if_neg hlong, hj]
      clear hlong
      go_enter Tryd.func35, Tryd.ntmps35
      go_wp2_with fail
      refine Calls.mono R.out ?_
      rintro e w1 ⟨b, n, q, bad, M, ok, rfl, TSW, b1, hm⟩
      rw [hj] at hm
      obtain rfl : ok = false := hm
      go_wp2
      go_ret2
      exact qrsPost_no HO.out b1
    | some j =>
      have HO : Hid (rulesOf s = match policyJ j with | none => (3, []) | some l => (0, l)) := by show _ = _; unfold rulesOf; rw [if_neg hlong, hj]; rfl
      have BJ : Hid (bnd 7 j) := read_bnd hs3 hj
      clear hlong
      go_enter Tryd.func35, Tryd.ntmps35
      go_wp2_with fail
      refine Calls.mono R.out ?_
      rintro e w1 ⟨b, n, q, bad, M, ok, rfl, TSW, b1, hm⟩
      rw [hj] at hm
      obtain ⟨rfl, ht⟩ := hm
      have T1 : TV b M w1 := TSW.view
      clear TSW R
      obtain ⟨nd, hn, hkd, -, -, hob, hnob⟩ := tree_kind ht
      have HNK : Hid (nd.names.length ≤ nd.kids.length ∧ nd.names.length ≤ 100000) := names_kids hob hnob hj hs3
      obtain ⟨ix, HIX⟩ : ∃ i, Hid ((memAt nd.names nd.kids sRules nd.names.length).1 = i) := ⟨_, rfl⟩
      obtain ⟨x, HX⟩ : ∃ x, Hid ((nd.kind == 123 && (memAt nd.names nd.kids sRules nd.names.length).2 == 1) = x) := ⟨_, rfl⟩
      go_wp2_with fail
      refine (member_any b M n nd sRules w1 T1 hn HNK.out.1 HNK.out.2).mono ?_
      rintro e w2 ⟨rfl, b2⟩
      rw [HIX.out, HX.out]
      have B2 := below_trans b1 b2
      have T2 := T1.below b2
      clear b1 b2 T1
      have NO : Hid (policyJ j = none → rulesOf s = (3, [])) := fun h => by rw [HO.out, h]
      cases x with
      | false =>
        have HN : Hid (rulesOf s = (3, [])) := by
          refine NO.out ?_
          by_cases hk : ∃ l, j = .obj l
          · obtain ⟨l, rfl⟩ := hk
            refine pol_none (fun h => ?_)
            have hx := HX.out
            have e1 : nd.kind = 123 := hkd
            rw [(hob l rfl).1, cnt_all, h.2, e1] at hx
            exact absurd hx (by decide)
          · exact pol_not (fun l e => hk ⟨l, e⟩)
        clear hob hnob HX HIX HNK ht hkd hn
        go_wp2
        go_ret2
        exact qrsPost_no HN.out B2
      | true =>
        have hx := HX.out
        rw [Bool.and_eq_true] at hx
        obtain ⟨l, rfl⟩ := kind_obj (hkd.symm.trans (eq_of_beq hx.1))
        obtain ⟨hnm, hall⟩ := hob l rfl
        have hcnt : cntM l sRules = 1 := by have := eq_of_beq hx.2; rwa [hnm, cnt_all] at this
        obtain ⟨jr, fr, tr⟩ := once_find hall sRules hcnt
        rw [← hnm, HIX.out] at tr
        have BR : Hid (bnd 6 jr) := find_bnd BJ.out fr
        have hln : nd.names.length = l.length := by rw [hnm, List.length_map]
        obtain ⟨g, cap, a1, c1, a2, c2, V⟩ := T2.node hn
        have lt := V.lt; have cb := V.cb; have d2 := V.d2
        clear V
        obtain ⟨ndr, hnr, hkr, har, -, -, -⟩ := tree_kind tr
        obtain ⟨g', cap', p1, q1, p2, q2, VR⟩ := T2.node hnr
        have ltr := VR.lt; have cbr := VR.cb; have v0 := VR.d0; have v3 := VR.d3; have rk := VR.rk
        clear VR
        have eg := cb.symm.trans cbr
        simp only [Option.some.injEq, Value.slice.injEq, Addr.mk.injEq, true_and, and_true] at eg
        obtain ⟨rfl, rfl⟩ := eg
        clear cbr hx HX HIX HNK hob hnob hnm hall ht hn hkd
        by_cases h1 : l.length = 1
        · have t1' : ((nd.names.length : Int) != 1) = false := by rw [hln, h1]; rfl
          by_cases h91 : ndr.kind = 91
          · obtain ⟨K, rfl⟩ := kind_arr (hkr.symm.trans h91)
            have HK : Hid (all2 (fun i j => treeJ (7 - 1 - 1) M i j) ndr.kids K) := har K rfl
            have hlen : ndr.kids.length = K.length := all2_len HK.out
            have HP : Hid (policyJ (.obj l) = if K.length ≤ 4 then rulesJ K else none) := pol_is h1 fr
            have t2' : ((ndr.kind : Int) != 91) = false := by simp; omega
            clear har fr hcnt hkr tr hnr
            by_cases h4 : K.length ≤ 4
            · have t3' : decide (4 < (ndr.kids.length : Int)) = false := by simp; omega
              obtain ⟨ak, ck, ek, _, hck⟩ := row_view rk
              simp only [Value.slice.injEq] at ek
              obtain ⟨rfl, -, rfl⟩ := ek
              have HCK : Hid (_) := hck
              have ub : b < w2.heap.size := World.block_lt_of_cell? w2 ⟨b, 3, none⟩ cb
              have ug : g < w2.heap.size := World.block_lt_of_cell? w2 ⟨g, ix * 4, none⟩ v0
              clear hck rk
              go_wp2
              go_loopw [9, 10] (fun lv iv wr => ∃ (m : Nat) (rs : List RuleP), m ≤ ndr.kids.length ∧ iv = .int .i64 m ∧ rulesJ (K.take m) = some rs ∧ rs.length ≤ m ∧ QP w2.heap.size lv rs wr ∧ Below w2.heap.size w2 wr) (fun _ i _ => ndr.kids.length - (intOf i).toNat)
              case atStart => exact ⟨0, [], Nat.zero_le _, rfl, rfl, Nat.le_refl _, QP.nil _ _, Below.refl _ _⟩
              case round =>
                obtain ⟨m, rs, hm, rfl, hrs, hrl, ⟨us, hrow, hal⟩, hb⟩ := hrel
                have HS : Hid (rulesJ (K.take m) = some rs) := hrs
                have sz := hb.size
                have KB := below_trans B2 hb
                have cb' := (hb.cell (p := ⟨b, 3, none⟩) ub).trans cb
                have v3' := (hb.cell (p := ⟨g, ix * 4 + 3, none⟩) ug).trans v3
                clear hrs
                by_cases hlt : m < ndr.kids.length
                · have hmK : m < K.length := by omega
                  obtain ⟨gk, rfl, ek1, hgk⟩ := HCK.out m (kidV ndr.kids[m]) (by rw [List.getElem?_map, List.getElem?_eq_getElem hlt]; rfl)
                  unfold kidV at ek1
                  replace ek1 := (hb.cell (p := ⟨gk, m, none⟩) hgk).trans ek1
                  have tm := all2_get HK.out m hlt hmK
                  obtain ⟨kk, hkk⟩ : ∃ kk, kk = ndr.kids[m] := ⟨_, rfl⟩
                  rw [← hkk] at ek1 tm
                  clear hkk
                  have RU := qrule_any b M kk 5 2 K[m] wr (T2.below hb) tm (BR.out K[m] (List.getElem_mem hmK))
                  cases hr : ruleJ K[m] with
                  | none =>
                    have HN : Hid (rulesOf s = (3, [])) := NO.out (by rw [HP.out, if_pos h4]; exact rulesJ_bad HS.out hmK hr)
                    rw [hr] at RU
                    have HRU : Hid (_) := RU
                    clear RU HS
                    go_wp2_with fail
                    refine Calls.mono HRU.out ?_
                    rintro e w3 ⟨b3, qq, ⟨x, a1, n1, e1, a2, n2, e2, a3, n3, e3, rfl⟩, rfl, -⟩
                    have K3 := below_trans KB b3
                    go_wp2
                    go_ret2
                    exact qrsPost_no HN.out (K3.alloc K3.size _)
                  | some r =>
                    have HY : Hid (rulesJ (K.take (m + 1)) = some (rs ++ [r])) := rulesJ_on HS.out hmK hr
                    rw [hr] at RU
                    have HRU : Hid (_) := RU
                    clear RU HS
                    go_wp2_with fail
                    refine Calls.mono HRU.out ?_
                    rintro e w3 ⟨b3, qq, ⟨x, a1, n1, e1, a2, n2, e2, a3, n3, e3, rfl⟩, rfl, hrel⟩
                    have K3 := below_trans KB b3
                    have z3 := b3.size
                    have hrow3 : ((w3.alloc (.cells #[.bool x, .slice a1 n1 e1, .slice a2 n2 e2, .slice a3 n3 e3] 109)).alloc (.cells #[.bool x, .slice a1 n1 e1, .slice a2 n2 e2, .slice a3 n3 e3] 109)).ownsRow w2.heap.size 109 4 _ rs.length (rqcells us) :=
                      (((Kept.of_below b3).row hrow (fun g hg e => by have := (World.ownsRow.lt hrow g hg).2; omega)).alloc _).alloc _
                    have hA : Below w3.heap.size w3 ((w3.alloc (.cells #[.bool x, .slice a1 n1 e1, .slice a2 n2 e2, .slice a3 n3 e3] 109)).alloc (.cells #[.bool x, .slice a1 n1 e1, .slice a2 n2 e2, .slice a3 n3 e3] 109)) := ((Below.refl _ _).alloc (Nat.le_refl _) _).alloc (by simp) _
                    have HBLK : Hid (((w3.alloc (.cells #[.bool x, .slice a1 n1 e1, .slice a2 n2 e2, .slice a3 n3 e3] 109)).alloc (.cells #[.bool x, .slice a1 n1 e1, .slice a2 n2 e2, .slice a3 n3 e3] 109)).heap[w3.heap.size + 1]? = some (.cells (qqcells (x, .slice a1 n1 e1, .slice a2 n2 e2, .slice a3 n3 e3)).toArray 109 (0, 0))) := by
                      have e : (w3.alloc (.cells #[.bool x, .slice a1 n1 e1, .slice a2 n2 e2, .slice a3 n3 e3] 109)).heap.size = w3.heap.size + 1 := by simp
                      show _ = _
                      rw [← e]
                      exact heap_alloc_new _ _
                    have HROW : Hid (_) := hrow3
                    have HROW0 : Hid (_) := hrow
                    have HAL : Hid (_) := hal
                    have HREL : Hid (_) := hrel
                    clear hrow hrow3 hal hrel HRU
                    go_wp2_with (at_builtin; refine qrapp_law rfl _ _ rfl w2.heap.size rs.length (rqcells us) (x, .slice a1 n1 e1, .slice a2 n2 e2, .slice a3 n3 e3) rfl rfl rfl _ rfl HROW.out _ rfl _ HBLK.out (by omega) (by simp; omega) ?_; intro g8 cap8 w8 row8 hg8 h8)
                    obtain ⟨QP8, BW8⟩ := QP.push (W := w2) sz HAL.out HROW0.out b3 HREL.out hA row8 hg8 h8 rfl hb
                    go_roundw
                    case rel => exact ⟨m + 1, rs ++ [r], by omega, by go_num, HY.out, by simp; omega, QP8, BW8⟩
                    case measure => simp [intOf]; omega
                · obtain rfl : m = ndr.kids.length := by omega
                  have HY : Hid (rulesOf s = (0, rs)) := by
                    show _ = _
                    have := HS.out
                    rw [hlen, List.take_length] at this
                    rw [HO.out, HP.out, if_pos h4, this]
                  clear HS
                  go_wp2
                  go_ret2
                  exact qrsPost_ok HY.out KB (QP.policy ⟨us, hrow, hal⟩ B2.size)
            · have HN : Hid (rulesOf s = (3, [])) := NO.out (by rw [HP.out, if_neg h4])
              have t3' : decide (4 < (ndr.kids.length : Int)) = true := by simp; omega
              go_wp2
              go_ret2
              exact qrsPost_no HN.out B2
          · have HN : Hid (rulesOf s = (3, [])) := NO.out (by rw [pol_is h1 fr, arr_not (by rw [← hkr]; exact h91)])
            have t2' : ((ndr.kind : Int) != 91) = true := by simp; omega
            clear har fr hcnt hkr tr hnr
            go_wp2
            go_ret2
            exact qrsPost_no HN.out B2
        · have HN : Hid (rulesOf s = (3, [])) := NO.out (pol_none (fun h => h1 h.1))
          have t1' : ((nd.names.length : Int) != 1) = true := by rw [hln]; simp; omega
          clear har fr hcnt hkr tr hnr
          go_wp2
          go_ret2
          exact qrsPost_no HN.out B2
end Go.Proofs.YtinnliapfdpfpaaDoor.P
