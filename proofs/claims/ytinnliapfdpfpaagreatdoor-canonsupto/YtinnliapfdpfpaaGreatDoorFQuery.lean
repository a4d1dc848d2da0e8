/-
  CANONICAL FORMS, the program's: the query's pairs, sorted and joined.
-/
import Derived.Test.YtinnliapfdpfpaaGreatDoorFPick
import Derived.Test.YtinnliapfdpfpaaGreatDoorCEnc
import Derived.Sort.OwnSorted
import Derived.Deep.RegionHeld3
namespace Go.Proofs.YtinnliapfdpfpaaGreatDoor.R
open Go.RowKit Go.Sort
open Go.Proofs.YtinnliapfdpfpaaGreatDoor.C (ret_bool ret_int enc enc_len encode_any)

theorem heap_new_eq {w : World} {A B : Array Value} {t : TypeId} (h : A = B) : (w.alloc (.cells A t)).heap[w.heap.size]? = some (.cells B t (0, 0)) := by subst h; exact heap_alloc_new _ _
theorem sapp_step {w : World} {ops : Array Oper} {o : Oper} {a : Act} {K : Act → World → Prop} {Q : Exit → Act → World → Prop} {E : Prop} (hgd : o.guard = none) (s x : Operand)
    (ho : o.op = .call { callee := .builtin .append, args := #[s, x], argTypes := #[69, 69] })
    (B : Nat) (l : List Bs) (p : Bs) (v : Value) (hs : a.eval s = v) (hown : srow w B v l) (H : Nat) (hx : a.eval x = .slice (some ⟨H, 0, none⟩) 1 1)
    (fr : Nat × Nat) (hblk : w.heap[H]? = some (.cells #[str p] 9 fr)) (hlen : l.length ≤ 1000000000) (hB : B ≤ w.heap.size)
    (h : ∀ v' w', srow w' B v' (l ++ [p]) → w.grownBy w' v.ownBlock → Below B w w' → K (a.put o.dst v') w') :
    if Region.wanted o (yielded ops a.tmps) = true then Oper.wp Tryz.prog o a w K Q else E := by
  obtain ⟨i0, hi, hz0, hz1, hz2⟩ := info_parts Tryz.infoS
  refine step_append_lies _ hgd s x 69 ho B 9 i0 (.string ⟨#[]⟩) 1 16 Tryz.underlying69 hi hz0 hz1 hz2 rfl (by omega) v l.length (l.map str) hs hown ⟨H, 0, none⟩ 1 1 [str p] hx (by simp)
    (fun j u hu => World.news_of_block hblk j u (by simpa using hu)) (by intro u hu; simp at hu; subst hu; rfl) (by omega) (by unfold maxLen; omega) (by omega) hB w.heap.size rfl ?_
  intro g cap w' h1 h2 _ _
  refine h _ w' ?_ h2 ((Below.refl B w).grown h2 hB hown.lt)
  unfold srow
  rw [List.length_append, List.map_append]
  exact h1
theorem encode_r (l : Bs) (p : Bool) (w : World) (hl : l.length ≤ 1000000000) : Calls Tryz.prog 42 #[str l, .bool p] w fun e w' => e = .returned (str (enc p l)) ∧ Below w.heap.size w w' :=
  encode_any ⟨l.toArray⟩ p w (by simp [ByteArray.size]; omega)
abbrev sorted (l : List Bs) : List Bs := l.mergeSort fun x y => decide (x ≤ y)
theorem map_enc (l : List Bs) : l.map encStr = l.map str := List.map_congr_left fun x _ => by simp [encStr]
theorem sort_r (v : Value) (l : List Bs) (B : Nat) (w : World) (h : srow w B v l) (hB : B ≤ w.heap.size) (hl : l.length ≤ 1000000000) :
    Calls Tryz.prog 103 #[v] w fun e w' => e = .returned (.tuple #[]) ∧ srow w' B v (sorted l) ∧ Below B w w' := by
  have hown := h.lt
  obtain ⟨h0, ⟨rfl, hn⟩ | ⟨g, cap, cur, rfl, hbase, hb, h1, h2, h3, h4⟩⟩ := id h
  · have : l = [] := List.eq_nil_of_length_eq_zero hn
    subst this
    refine (Tryz.slices_Sort_string_none none 0 w).mono ?_
    rintro e w' ⟨rfl, rfl⟩
    exact ⟨rfl, by simpa [sorted] using h, Below.refl _ _⟩
  · refine (Tryz.slices_Sort_string g 0 cap l w (holds_of_block hb (by rw [map_enc]; simpa using h4)) (Array.getElem?_eq_some_iff.1 hb).1 (by omega)).mono ?_
    rintro e w' ⟨rfl, n, os, rfl⟩
    have hl' : (sorted l).length = l.length := List.length_mergeSort _
    refine ⟨rfl, ?_, (Below.refl B w).grown (grownBy_sorted _) hB hown⟩
    have := ownsRow_sorted (n := n) (os := os) (ss := l) (ts := sorted l) hl' hbase hb h1 h2 h3
    unfold srow
    rw [map_enc] at this
    rw [hl']
    exact this
theorem join_len (sep : Bs) (M : Nat) : ∀ l : List Bs, (∀ x ∈ l, x.length ≤ M) → (Lib.join l sep).length ≤ l.length * (M + sep.length) := by
  intro l
  induction l with
  | nil => intro _; simp [Lib.join, List.intercalate]
  | cons a r ih =>
    intro h
    have ha := h a (by simp)
    have ih' := ih (fun x hx => h x (by simp [hx]))
    cases r with
    | nil => rw [Lib.join_one]; simp; omega
    | cons b r =>
      rw [join_cons2]
      simp only [List.length_append, List.length_cons] at ih' ⊢
      rw [Nat.succ_mul]
      omega
theorem map_back (l : List Bs) : (l.map fun x : Bs => (⟨x.toArray⟩ : ByteArray)).map (·.data.toList) = l := by
  induction l with
  | nil => rfl
  | cons a r ih => simp only [List.map_cons, ih]
theorem ret_str {a b : Bs} (h : a = b) : Ending.returned (str a) = .returned (str b) := by rw [h]
theorem join_h (v : Value) (l : List Bs) (sep : Bs) (B : Nat) (w : World) (h : srow w B v l) (hl : l.length ≤ 100000000) (hjl : (Lib.join l sep).length ≤ 140737488355328) :
    Calls Tryz.prog 64 #[v, str sep] w fun e w' => e = .returned (str (Lib.join l sep)) ∧ Below w.heap.size w w' := by
  by_cases h0 : l = []
  · subst h0
    obtain ⟨a, c, rfl⟩ := h.len
    refine (Tryz.strings_Join_none a c ⟨sep.toArray⟩ w).mono ?_
    rintro e w' ⟨rfl, rfl⟩
    exact ⟨by simp [Lib.join, List.intercalate], Below.refl _ _⟩
  · obtain ⟨g, cap, e, hg, hg2, hc⟩ := h.form h0
    have hcap : l.length ≤ cap := by
      obtain ⟨_, ⟨e2, _⟩ | ⟨g2, cap2, cur, e2, _, _, h1, _⟩⟩ := h
      · rw [e] at e2; cases e2
      · rw [e] at e2; cases e2; exact h1
    subst e
    have e1 : (l.map fun x : Bs => (⟨x.toArray⟩ : ByteArray)).map (·.data.toList) = l := map_back l
    have := Tryz.strings_Join g 0 cap (l.map fun x => (⟨x.toArray⟩ : ByteArray)) ⟨sep.toArray⟩ w (by
      intro j x hx
      rw [List.getElem?_map, Option.map_eq_some_iff] at hx
      obtain ⟨y, hy, rfl⟩ := hx
      obtain ⟨hj, rfl⟩ := List.getElem?_eq_some_iff.1 hy
      rw [Nat.zero_add]
      exact hc j hj) hg2 (by simp; omega) (by simpa using hcap) (by rw [e1]; simp only; omega)
    rw [e1, List.length_map] at this
    exact this
theorem join_r (v : Value) (l : List Bs) (sep : Bs) (B : Nat) (w : World) (h : srow w B v l) (hl : l.length ≤ 1000000) (hm : ∀ x ∈ l, x.length ≤ 100000000) (hs : sep.length ≤ 1000) :
    Calls Tryz.prog 64 #[v, str sep] w fun e w' => e = .returned (str (Lib.join l sep)) ∧ Below w.heap.size w w' := by
  have hjl := join_len sep 100000000 l hm
  have hjl2 : l.length * (100000000 + sep.length) ≤ 1000000 * (100000000 + 1000) := Nat.mul_le_mul hl (by omega)
  exact join_h v l sep B w h (by omega) (by omega)

/-- The pairs of a query as they are told. -/
def qs (q : Ps) : List Bs := (q.filter fun p => !(p.1 == [120, 45, 115, 105, 103])).map pairText
theorem qs_take {q : Ps} {k : Nat} (h : k < q.length) : qs (q.take (k + 1)) = if q[k].1 = [120, 45, 115, 105, 103] then qs (q.take k) else qs (q.take k) ++ [pairText q[k]] := by
  rw [List.take_succ_eq_append_getElem h, qs, List.filter_append, List.map_append]
  by_cases e : q[k].1 = [120, 45, 115, 105, 103]
  · simp [e, qs]
  · simp [e, qs]
theorem qs_len (q : Ps) : (qs q).length ≤ q.length := by unfold qs; rw [List.length_map]; exact List.length_filter_le _ _
theorem qs_mem {q : Ps} (hq : ∀ p ∈ q, p.1.length ≤ 1000000 ∧ p.2.length ≤ 1000000) : ∀ x ∈ qs q, x.length ≤ 100000000 := by
  intro x hx
  unfold qs at hx
  rw [List.mem_map] at hx
  obtain ⟨p, hp, rfl⟩ := hx
  obtain ⟨h1, h2⟩ := hq p (List.mem_filter.1 hp).1
  have e1 := (enc_len false p.1).2
  have e2 := (enc_len false p.2).2
  simp only [pairText, List.length_append, List.length_cons, List.length_nil]
  omega
theorem sorted_mem {l : List Bs} {M : Nat} (h : ∀ x ∈ l, x.length ≤ M) : ∀ x ∈ sorted l, x.length ≤ M := fun x hx => h x (List.mem_mergeSort.1 hx)

theorem canonQ_len {q : Ps} (hl : q.length ≤ 1000000) (hq : ∀ p ∈ q, p.1.length ≤ 1000000 ∧ p.2.length ≤ 1000000) : (canonQ q).length ≤ 100000001000000 := by
  have h1 := join_len [38] 100000000 (sorted (qs q)) (sorted_mem (qs_mem hq))
  have h2 : (sorted (qs q)).length ≤ 1000000 := by rw [List.length_mergeSort]; exact Nat.le_trans (qs_len q) hl
  have h3 : (sorted (qs q)).length * (100000000 + 1) ≤ 1000000 * (100000000 + 1) := Nat.mul_le_mul h2 (Nat.le_refl _)
  show (Lib.join (sorted (qs q)) [38]).length ≤ _
  simp only [List.length_cons, List.length_nil] at h1
  omega

set_option maxRecDepth 20000 in
set_option maxHeartbeats 2000000 in
theorem canonQ_any (v : Value) (q : Ps) (w : World) (h : phold w w.heap.size v q) (hl : q.length ≤ 1000000) (hq : ∀ p ∈ q, p.1.length ≤ 1000000 ∧ p.2.length ≤ 1000000) :
    Calls Tryz.prog 61 #[v] w fun e w' => e = .returned (str (canonQ q)) ∧ Below w.heap.size w w' := by
  have HM : Hid (∀ x ∈ qs q, x.length ≤ 100000000) := qs_mem hq
  have HQL := qs_len q
  have HC : Hid (canonQ q = Lib.join (sorted (qs q)) [38]) := rfl
  have JR : Hid (_) := join_r
  have SR : Hid (_) := sort_r
  rcases h with ⟨rfl, rfl⟩ | ⟨g, cap, rfl, hg, hc⟩
  · go_enter Tryz.func61, Tryz.ntmps61
    go_wp2
    go_loop [3, 8] (fun v i => v = .slice none 0 0 ∧ i = .int .i64 0) (fun _ _ => 0)
    case atStart => exact ⟨rfl, rfl⟩
    case round =>
      obtain ⟨rfl, rfl⟩ := hrel
      go_wp2_with fail
      refine (SR.out _ [] w.heap.size w (srow_nil _ _) (Nat.le_refl _) (by simp)).mono ?_
      rintro e w1 ⟨rfl, hr1, hb1⟩
      go_wp2_with fail
      refine (JR.out _ (sorted []) [38] w.heap.size w1 hr1 (by simp) (by simp [sorted]) (by simp)).mono ?_
      rintro e w2 ⟨rfl, hb2⟩
      have hb3 := hb1.trans (hb2.mono hb1.size)
      go_wp2
      go_ret
      exact ⟨ret_str (by rw [HC.out]; simp [sorted, qs]), hb3⟩
  · go_enter Tryz.func61, Tryz.ntmps61
    go_wp2
    go_loopw [3, 8] (fun v i wr => ∃ k : Nat, k ≤ q.length ∧ i = .int .i64 k ∧ srow wr w.heap.size v (qs (q.take k)) ∧ Below w.heap.size w wr) (fun _ i _ => q.length - (intOf i).toNat)
    case atStart => exact ⟨0, Nat.zero_le _, rfl, srow_nil _ _, Below.refl _ _⟩
    case round =>
      obtain ⟨k, hk, rfl, hrow, hb⟩ := hrel
      have hsz := hb.size
      by_cases hlt : k < q.length
      · obtain ⟨c1, c2⟩ := hc k hlt
        replace c1 := (hb.cell (p := ⟨g, k * 2, none⟩) (show g < w.heap.size by omega)).trans c1
        replace c2 := (hb.cell (p := ⟨g, k * 2 + 1, none⟩) (show g < w.heap.size by omega)).trans c2
        have HS : Hid (qs (q.take (k + 1)) = if q[k].1 = [120, 45, 115, 105, 103] then qs (q.take k) else qs (q.take k) ++ [pairText q[k]]) := qs_take hlt
        obtain ⟨l1, l2⟩ := hq q[k] (List.getElem_mem hlt)
        have hql : (qs (q.take k)).length ≤ 1000000 := Nat.le_trans (qs_len _) (by rw [List.length_take]; omega)
        clear hc HM HC
        generalize q[k] = p at *
        obtain ⟨pn, pv⟩ := p
        simp only [pairText] at c1 c2 HS l1 l2
        have e1 := (enc_len false pn).2
        have e2 := (enc_len false pv).2
        generalize qs (q.take k) = o at *
        have hb1 : Below w.heap.size w (wr.alloc (.cells #[str pn, str pv] 117)) := hb.alloc hsz _
        by_cases hx : pn = [120, 45, 115, 105, 103]
        · have hx' : (pn == [120, 45, 115, 105, 103]) = true := by simpa using hx
          have HS2 : Hid (qs (q.take (k + 1)) = o) := by show _ = _; rw [HS.out, if_pos hx]
          clear hx
          go_wp2
          go_roundw
          case rel => exact ⟨k + 1, by omega, by go_num, by rw [HS2.out]; exact hrow.alloc _, hb1⟩
          case measure => simp [intOf]; omega
        · have hx' : (pn == [120, 45, 115, 105, 103]) = false := by simpa using hx
          have HS2 : Hid (qs (q.take (k + 1)) = o ++ [enc false pn ++ [61] ++ enc false pv]) := by show _ = _; rw [HS.out, if_neg hx]
          clear hx HS
          have EN : Hid (_) := encode_r pn false
          have EV : Hid (_) := encode_r pv false
          have d1 : (wr.alloc (.cells #[str pn, str pv] 117)).cell? ⟨wr.heap.size, 0, none⟩ = some (str pn) := by simp [go_sem]
          have d2 : (wr.alloc (.cells #[str pn, str pv] 117)).cell? ⟨wr.heap.size, 1, none⟩ = some (str pv) := by simp [go_sem]
          have row0 := hrow.alloc (.cells #[str pn, str pv] 117)
          have hz0 : wr.heap.size < (wr.alloc (.cells #[str pn, str pv] 117)).heap.size := by simp
          have hne : some wr.heap.size ≠ u3.ownBlock := fun e => absurd (World.ownsRow.lt hrow _ e.symm).2 (by omega)
          have HC2 : Hid (#[Value.string ((⟨(enc false pn).toArray⟩ : ByteArray) ++ ⟨#[61]⟩ ++ ⟨(enc false pv).toArray⟩)] = #[str (enc false pn ++ [61] ++ enc false pv)]) := by
            show _ = _
            have e3 : ((⟨(enc false pn).toArray⟩ : ByteArray) ++ ⟨#[61]⟩) = ⟨(enc false pn ++ [61]).toArray⟩ := str_app _ [61]
            rw [e3, str_app]
          go_wp2_with fail
          clear hrow hb c1 c2
          have f1 : ¬ 9223372036854775807 < (enc false pn).length + 1 := by omega
          have f2 : ¬ 9223372036854775807 < (enc false pn).length + 1 + (enc false pv).length := by omega
          generalize (wr.alloc (.cells #[str pn, str pv] 117)) = W0 at *
          generalize wr.heap.size = b0 at *
          go_region_held3 (fun w' => w'.cell? ⟨b0, 0, none⟩ = some (str pn) ∧ w'.cell? ⟨b0, 1, none⟩ = some (str pv)) (first | exact ⟨d1, d2⟩ | exact ⟨cell_alloc d1 _, cell_alloc d2 _⟩ | exact ⟨hg8.cell (cell_alloc d1 _) hne, hg8.cell (cell_alloc d2 _) hne⟩)
            (first
              | (go_at_call 42; refine (encode_r _ false _ (by omega)).mono ?_; rintro e w6 ⟨rfl, hb6⟩; replace d1 := (hb6.cell (p := ⟨b0, 0, none⟩) hz0).trans d1; replace d2 := (hb6.cell (p := ⟨b0, 1, none⟩) hz0).trans d2; replace hb1 : Below w.heap.size w w6 := (by first | exact hb1.trans (hb6.mono hb1.size) | exact hb1.drew.trans (hb6.mono hb1.size)); replace hz0 := Nat.lt_of_lt_of_le hz0 hb6.size; have hsz := hb1.size; replace row0 : srow w6 w.heap.size u3 o := (by first | exact row0.below hb6 | exact srow.below (w := W0.drew) row0 hb6))
              | (refine sapp_step rfl _ _ rfl w.heap.size o (enc false pn ++ [61] ++ enc false pv) _ rfl (row0.alloc _) _ rfl _ (heap_new_eq HC2.out) (by omega) (by simp; omega) ?_; intro v' w8 row8 hg8 hb8))
          rename_i hHeld
          clear hHeld
          go_wp2
          go_roundw
          case rel => exact ⟨k + 1, by omega, by go_num, by rw [HS2.out]; exact row8, (hb1.alloc hb1.size _).trans hb8⟩
          case measure => simp [intOf]; omega
      · have HT : Hid (q.take k = q) := List.take_of_length_le (by omega)
        rw [HT.out] at hrow
        go_wp2_with fail
        refine (SR.out _ (qs q) w.heap.size wr hrow hsz (by omega)).mono ?_
        rintro e w1 ⟨rfl, hr1, hb1⟩
        have hz1 := hb1.size
        have hls : (sorted (qs q)).length = (qs q).length := List.length_mergeSort _
        have HSM : Hid (∀ x ∈ sorted (qs q), x.length ≤ 100000000) := sorted_mem HM.out
        go_wp2_with fail
        refine (JR.out _ (sorted (qs q)) [38] w.heap.size w1 hr1 (by omega) HSM.out (by simp)).mono ?_
        rintro e w2 ⟨rfl, hb2⟩
        have hb3 := (hb.trans hb1).trans (hb2.mono (by omega))
        go_wp2
        go_ret
        exact ⟨ret_str HC.out.symm, hb3⟩
end Go.Proofs.YtinnliapfdpfpaaGreatDoor.R
