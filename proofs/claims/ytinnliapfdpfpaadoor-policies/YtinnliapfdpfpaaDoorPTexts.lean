/-
  POLICIES OF JSON VALUES: lists of texts.
-/
import Derived.Test.YtinnliapfdpfpaaDoorPFind
namespace Go.Proofs.YtinnliapfdpfpaaDoor.P
open Go.RowKit

theorem Tryd.infoT : (Tryd.prog.info? 9).map (fun i => (i.zero, i.size, i.bytes)) = some (some (.string ⟨#[]⟩), 1, 16) := by kernel_rfl
/-- A row of texts, from block B on. -/
def srow (w : World) (B : Nat) (v : Value) (l : List (List UInt8)) : Prop := w.ownsRow B 9 1 v l.length (l.map str)
theorem srow_nil (w : World) (B : Nat) : srow w B (.slice none 0 0) [] := World.ownsRow_nil w B 9 1
theorem srow.below {w w' : World} {B : Nat} {v : Value} {l : List (List UInt8)} (h : srow w B v l) (b : Below w.heap.size w w') : srow w' B v l :=
  (Kept.of_below b).row h (fun g hg e => by have := (World.ownsRow.lt h g hg).2; omega)
theorem srow.alloc {w : World} {B : Nat} {v : Value} {l : List (List UInt8)} (h : srow w B v l) (o : Obj) : srow (w.alloc o) B v l := World.ownsRow.alloc h o
theorem sapp_law {w : World} {ops : Array Oper} {rest : List Oper} {o : Oper} {a : Act} {Q : Exit → Act → World → Prop} (hgd : o.guard = none) (s x : Operand)
    (ho : o.op = .call { callee := .builtin .append, args := #[s, x], argTypes := #[28, 28] })
    (B : Nat) (l : List (List UInt8)) (p : List UInt8) (v : Value) (hs : a.eval s = v) (hown : srow w B v l) (H : Nat) (hx : a.eval x = .slice (some ⟨H, 0, none⟩) 1 1)
    (fr : Nat × Nat) (hblk : w.heap[H]? = some (.cells #[str p] 9 fr)) (hlen : l.length ≤ 1000000000) (hB : B ≤ w.heap.size)
    (h : ∀ g cap w', srow w' B (.slice (some ⟨g, 0, none⟩) (l.length + 1) cap) (l ++ [p]) → w.grownBy w' v.ownBlock → (v.ownBlock = some g ∨ g = w.heap.size) → Below B w w' → wpList Tryd.prog ops Q rest (a.put o.dst (.slice (some ⟨g, 0, none⟩) (l.length + 1) cap)) w') :
    wpList Tryd.prog ops Q (o :: rest) a w := by
  obtain ⟨i0, hi, hz0, hz1, hz2⟩ := info_parts Tryd.infoT
  refine wpList_append_lies _ hgd s x 28 ho B 9 i0 (.string ⟨#[]⟩) 1 16 Tryd.underlying28 hi hz0 hz1 hz2 rfl (by omega) v l.length (l.map str) hs hown ⟨H, 0, none⟩ 1 1 [str p] hx (by simp)
    (fun j u hu => World.news_of_block hblk j u (by simpa using hu)) (by intro u hu; simp at hu; subst hu; rfl) (by omega) (by unfold maxLen; omega) (by omega) hB w.heap.size rfl ?_
  intro g cap w' h1 h2 h3 _
  refine h g cap w' ?_ h2 h3 ((Below.refl B w).grown h2 hB (fun k hk => (World.ownsRow.lt hown k hk).1))
  unfold srow
  rw [List.length_append, List.map_append]
  exact h1

theorem strsJ_snoc : ∀ (l : List J) (j : J), strsJ (l ++ [j]) = match strsJ l with
    | none => none
    | some a => match strJ j with
      | none => none
      | some s => some (a ++ [s])
  | [], j => by simp only [List.nil_append, strsJ]; cases strJ j <;> rfl
  | i :: l, j => by
    simp only [List.cons_append, strsJ]
    cases strJ i with
    | none => rfl
    | some s =>
      simp only [strsJ_snoc l j]
      cases strsJ l with
      | none => rfl
      | some a => simp only [Option.map]; cases strJ j <;> rfl
theorem strsJ_none : ∀ (l m : List J), strsJ l = none → strsJ (l ++ m) = none
  | [], m, h => by simp [strsJ] at h
  | i :: l, m, h => by
    simp only [List.cons_append, strsJ] at *
    cases hi : strJ i with
    | none => rfl
    | some s =>
      rw [hi] at h
      simp only at h ⊢
      cases hs : strsJ l with
      | none => rw [strsJ_none l m hs]; rfl
      | some a => rw [hs] at h; cases h
/-- So far, all are texts, and right. -/
def sofarT (f : List UInt8 → Bool) (l : List J) (i : Nat) (a : List (List UInt8)) : Prop := strsJ (l.take i) = some a ∧ a.all f = true
theorem take_snoc' {α : Type} {l : List α} {i : Nat} (h : i < l.length) : l.take (i + 1) = l.take i ++ [l[i]] := by rw [List.take_add_one, List.getElem?_eq_getElem h]; rfl
theorem textsJ_arr {l : List J} (hl : 1 ≤ l.length ∧ l.length ≤ 4) : textsJ (.arr l) = strsJ l := if_pos hl
theorem textsJ_out {l : List J} (hl : ¬ (1 ≤ l.length ∧ l.length ≤ 4)) : textsJ (.arr l) = none := if_neg hl
theorem sofarT.on {f : List UInt8 → Bool} {l : List J} {i : Nat} {a : List (List UInt8)} (h : sofarT f l i a) (hi : i < l.length) {s : List UInt8} (hs : strJ l[i] = some s) (hf : f s = true) : sofarT f l (i + 1) (a ++ [s]) := by
  refine ⟨?_, ?_⟩
  · rw [take_snoc' hi, strsJ_snoc, h.1]; simp only; rw [hs]
  · rw [List.all_append, h.2]; simp [hf]
theorem sofarT.bad {f : List UInt8 → Bool} {l : List J} {i : Nat} {a : List (List UInt8)} (h : sofarT f l i a) (hi : i < l.length) (hs : strJ l[i] = none) (hl : 1 ≤ l.length ∧ l.length ≤ 4) : goodJ f (.arr l) = none := by
  have : strsJ l = none := by
    have := strsJ_none (l.take (i + 1)) (l.drop (i + 1)) (by rw [take_snoc' hi, strsJ_snoc, h.1]; simp only; rw [hs])
    rwa [List.take_append_drop] at this
  unfold goodJ; rw [textsJ_arr hl, this]
theorem strsJ_all : ∀ (l m : List J) (a c : List (List UInt8)), strsJ l = some a → strsJ (l ++ m) = some c → ∃ d, c = a ++ d
  | [], m, a, c, h, h2 => by simp [strsJ] at h; subst h; exact ⟨c, rfl⟩
  | i :: l, m, a, c, h, h2 => by
    simp only [List.cons_append, strsJ] at *
    cases hi : strJ i with
    | none => rw [hi] at h; cases h
    | some s =>
      rw [hi] at h h2
      simp only at h h2
      cases hs : strsJ l with
      | none => rw [hs] at h; cases h
      | some b =>
        cases hs2 : strsJ (l ++ m) with
        | none => rw [hs2] at h2; cases h2
        | some e =>
          rw [hs] at h; rw [hs2] at h2
          simp at h h2
          obtain ⟨d, rfl⟩ := strsJ_all l m b e hs hs2
          exact ⟨d, by rw [← h, ← h2]; rfl⟩
theorem sofarT.wrong {f : List UInt8 → Bool} {l : List J} {i : Nat} {a : List (List UInt8)} (h : sofarT f l i a) (hi : i < l.length) {s : List UInt8} (hs : strJ l[i] = some s) (hf : f s = false) (hl : 1 ≤ l.length ∧ l.length ≤ 4) : goodJ f (.arr l) = none := by
  have h1 : strsJ (l.take (i + 1)) = some (a ++ [s]) := by rw [take_snoc' hi, strsJ_snoc, h.1]; simp only; rw [hs]
  unfold goodJ; rw [textsJ_arr hl]
  cases hc : strsJ l with
  | none => rfl
  | some c =>
    obtain ⟨d, rfl⟩ := strsJ_all (l.take (i + 1)) (l.drop (i + 1)) _ c h1 (by rw [List.take_append_drop]; exact hc)
    simp only
    rw [if_neg]
    simp [hf]
theorem sofarT.done {f : List UInt8 → Bool} {l : List J} {a : List (List UInt8)} (h : sofarT f l l.length a) (hl : 1 ≤ l.length ∧ l.length ≤ 4) : goodJ f (.arr l) = some a := by
  obtain ⟨h1, h2⟩ := h
  rw [List.take_length] at h1
  unfold goodJ; rw [textsJ_arr hl, h1]; simp only; rw [if_pos h2]
def textsPost (w : World) (o : Option (List (List UInt8))) (e : Ending) (w' : World) : Prop :=
  Below w.heap.size w w' ∧ match o with
  | none => e = .panicked noP
  | some l => ∃ v, e = .returned v ∧ srow w' w.heap.size v l ∧ l.length ≤ 4 ∧ ∀ y ∈ l, y.length ≤ 4000
theorem textsPost_ok {w w' : World} {o : Option (List (List UInt8))} {l : List (List UInt8)} {v : Value} (h : o = some l) (hb : Below w.heap.size w w') (hv : srow w' w.heap.size v l) (hl : l.length ≤ 4) (hy : ∀ y ∈ l, y.length ≤ 4000) : textsPost w o (.returned v) w' := by subst h; exact ⟨hb, v, rfl, hv, hl, hy⟩
theorem textsPost_no {w w' : World} {o : Option (List (List UInt8))} (h : o = none) (hb : Below w.heap.size w w') : textsPost w o (.panicked noP) w' := by subst h; exact ⟨hb, rfl⟩
theorem strJ_len {k : Nat} {w : World} {v : Value} {j : J} {s : List UInt8} (h : repJ k w (inW w) v j) (hs : strJ j = some s) : s.length ≤ 4000 := by
  cases j with
  | str t => cases hs; exact (str_val h).2
  | _ => cases hs
set_option maxHeartbeats 2000000 in
theorem rreadList_any (f : List UInt8 → Bool) (g : Nat) (eg : ∀ args w, (callFunc g args).run Tryd.prog w = .ok (.enter g args) w)
    (F : ∀ s w, s.length ≤ 4000 → Calls Tryd.prog g #[str s] w fun e w' => e = .returned (.bool (f s)) ∧ w = w')
    (k : Nat) (v : Value) (j : J) (w : World) (h : repJ k w (inW w) v j) :
    Calls Tryd.prog 117 #[v, .func (.func g) #[] #[]] w (textsPost w (goodJ f j)) := by
  have A := arrayOf_any k v j w h
  cases ha : arrJ j with
  | none =>
    have HN : Hid (goodJ f j = none) := by
      show _ = _
      cases j with
      | arr l => cases ha
      | _ => rfl
    rw [ha] at A
    have A2 : Calls Tryd.prog 81 #[v] w fun e w' => e = .panicked noP ∧ w = w' := A
    clear A
    go_enter Tryd.func117, Tryd.ntmps117
    go_wp2_with (go_at_call 81; refine A2.mono ?_; rintro e w' ⟨rfl, rfl⟩)
    exact ⟨rfl, textsPost_no HN.out (Below.refl _ _)⟩
  | some l =>
    obtain rfl : j = .arr l := by
      cases j with
      | arr m => cases ha; rfl
      | _ => cases ha
    rw [ha] at A
    have A2 : Calls Tryd.prog 81 #[v] w fun e w' => (∃ sl, e = .returned sl ∧ elems (k - 1) w sl l) ∧ w = w' := A
    clear A
    go_enter Tryd.func117, Tryd.ntmps117
    go_wp2_with fail
    refine A2.mono ?_
    rintro e w' ⟨⟨sl, rfl, us, hrow, hall⟩, rfl⟩
    clear A2
    have hlen := all2_len hall
    obtain ⟨a, cap, rfl, hcap, hcells⟩ := row_view hrow
    have HC : Hid (∀ j u, us[j]? = some u → ∃ g, a = some ⟨g, 0, none⟩ ∧ w.cell? ⟨g, j, none⟩ = some u ∧ g < w.heap.size) := hcells
    have HA : Hid (all2 (repJ (k - 1) w (inW w)) us l) := hall
    clear hcells hall hrow h
    by_cases hl : 1 ≤ l.length ∧ l.length ≤ 4
    · have t1 : decide (1 ≤ (l.length : Int)) = true := by simp; omega
      have t2 : decide ((l.length : Int) ≤ 4) = true := by simp; omega
      go_wp2_with (go_at_call 84; refine (rneed_ok _).mono ?_; rintro e w' ⟨rfl, rfl⟩)
      go_loopw [6, 23] (fun tv i wr => ∃ n : Nat, ∃ acc, n ≤ l.length ∧ i = .int .i64 n ∧ srow wr w.heap.size tv acc ∧ sofarT f l n acc ∧ acc.length ≤ n ∧ (∀ y ∈ acc, y.length ≤ 4000) ∧ Below w.heap.size w wr) (fun _ i _ => l.length - (intOf i).toNat)
      case atStart => exact ⟨0, [], Nat.zero_le _, rfl, srow_nil _ _, ⟨rfl, rfl⟩, Nat.le_refl _, (fun y hy => by cases hy), Below.refl _ _⟩
      case round =>
        obtain ⟨n, acc, hn, rfl, hs, hso, hacc, hys, hb⟩ := hrel
        have HS : Hid (sofarT f l n acc) := hso
        clear hso
        have hsz := hb.size
        by_cases hlt : n < l.length
        · have hu : n < us.length := by omega
          obtain ⟨g', rfl, c1, hg⟩ := HC.out n us[n] (List.getElem?_eq_getElem hu)
          have hj0 := all2_get HA.out n hu hlt
          have hj := RJ_below hj0 hb
          obtain ⟨vt, vx, hv⟩ := repJ.iface _ hj
          rw [hv] at c1 hj
          replace c1 := (hb.cell (p := ⟨g', n, none⟩) hg).trans c1
          cases hst : strJ l[n] with
          | none =>
            have HN : Hid (goodJ f (.arr l) = none) := HS.out.bad hlt hst hl
            clear HS HC HA
            go_wp2_with (go_at_call 143; refine (textOf_none _ _ _ _ hj hst).mono ?_; rintro e w' ⟨rfl, rfl⟩)
            exact ⟨rfl, textsPost_no HN.out hb⟩
          | some s =>
            have hsl := strJ_len hj hst
            cases hf : f s with
            | false =>
              have HN : Hid (goodJ f (.arr l) = none) := HS.out.wrong hlt hst hf hl
              clear HS HC HA
              go_wp2_with (first | (go_at_call 143; refine (textOf_some _ _ _ _ _ hj hst).mono ?_; rintro e w' ⟨rfl, rfl⟩) | (go_at_fn g; refine (F s _ hsl).mono ?_; rw [hf]; rintro e w' ⟨rfl, rfl⟩) | (go_at_call 84; refine (rneed_no _).mono ?_; rintro e w' ⟨rfl, rfl⟩))
              exact ⟨rfl, textsPost_no HN.out hb⟩
            | true =>
              have HY : Hid (sofarT f l (n + 1) (acc ++ [s])) := HS.out.on hlt hst hf
              clear HS
              go_wp2_with (first | (go_at_call 143; refine (textOf_some _ _ _ _ _ hj hst).mono ?_; rintro e w' ⟨rfl, rfl⟩) | (go_at_fn g; refine (F s _ hsl).mono ?_; rw [hf]; rintro e w' ⟨rfl, rfl⟩) | (go_at_call 84; refine (rneed_ok _).mono ?_; rintro e w' ⟨rfl, rfl⟩) | (at_builtin; refine sapp_law rfl _ _ rfl w.heap.size acc s _ rfl (hs.alloc _) _ rfl _ (heap_alloc_new _ _) (by omega) (by simp; omega) ?_; intro g8 cap8 w8 row8 _ _ hb8))
              have K8 : Below w.heap.size w w8 := (hb.alloc hsz _).trans hb8
              go_roundw
              case rel => exact ⟨n + 1, acc ++ [s], by omega, by go_num, row8, HY.out, by simp; omega, (fun y hy => (List.mem_append.1 hy).elim (hys y) (fun e => by simp at e; subst e; exact hsl)), K8⟩
              case measure => simp [intOf]; omega
        · obtain rfl : n = l.length := by omega
          have HD : Hid (goodJ f (.arr l) = some acc) := HS.out.done hl
          clear HS HC HA
          go_wp2
          go_ret
          exact textsPost_ok HD.out hb hs (by omega) hys
    · have HN : Hid (goodJ f (.arr l) = none) := by show _ = _; unfold goodJ; rw [textsJ_out hl]
      by_cases h1 : 1 ≤ l.length
      · have t1 : decide (1 ≤ (l.length : Int)) = true := by simp; omega
        have t2 : decide ((l.length : Int) ≤ 4) = false := by simp; omega
        clear hl
        go_wp2_with (go_at_call 84; refine (rneed_no _).mono ?_; rintro e w' ⟨rfl, rfl⟩)
        exact ⟨rfl, textsPost_no HN.out (Below.refl _ _)⟩
      · have t1 : decide (1 ≤ (l.length : Int)) = false := by simp; omega
        clear hl
        go_wp2_with (go_at_call 84; refine (rneed_no _).mono ?_; rintro e w' ⟨rfl, rfl⟩)
        exact ⟨rfl, textsPost_no HN.out (Below.refl _ _)⟩
end Go.Proofs.YtinnliapfdpfpaaDoor.P
