/-
  THE DOCUMENT'S ANSWER: cutting and splitting.
-/
import Derived.Test.YtinnliapfdpfpaaGreatDoorRTop
namespace Go.Proofs.YtinnliapfdpfpaaGreatDoor.R
open Go.RowKit
open Go.Proofs.YtinnliapfdpfpaaGreatDoor.C (ret_bool ret_int dec hasB hasB_snoc in_any)

theorem ext_drop_take (l : Bs) (i j : Nat) : (⟨l.toArray⟩ : ByteArray).extract i j = ⟨((l.drop i).take (j - i)).toArray⟩ := by
  apply ByteArray.ext
  apply Array.ext'
  simp [List.take_drop]
theorem occ_eq {l sep : Bs} {k : Nat} : Lib.occAt l sep k = ((l.drop k).take sep.length == sep) := by
  unfold Lib.occAt
  rw [Bool.eq_iff_iff, List.isPrefixOf_iff_prefix, beq_iff_eq]
  constructor
  · intro h; exact (List.prefix_iff_eq_take.1 h).symm
  · intro h; rw [List.prefix_iff_eq_take]; exact h.symm
theorem occ_far {l sep : Bs} {k : Nat} (h : l.length < k + sep.length) (hs : 1 ≤ sep.length) : Lib.occAt l sep k = false := by
  unfold Lib.occAt
  rw [Bool.eq_false_iff]
  intro h'
  have := (List.isPrefixOf_iff_prefix.1 h').length_le
  rw [List.length_drop] at this
  omega
theorem cut_found {l sep : Bs} {k : Nat} (hk : k ≤ l.length) (h : Lib.occAt l sep k = true) (hn : ∀ j, j < k → Lib.occAt l sep j = false) : Lib.cut l sep = (l.take k, l.drop (k + sep.length), true) := by
  have e := Lib.index_first hk h hn
  unfold Lib.cut
  rw [e, if_pos (by omega)]
  simp
theorem cut_none {l sep : Bs} (h : ∀ j, j ≤ l.length → Lib.occAt l sep j = false) : Lib.cut l sep = (l, [], false) := cut_miss (Lib.index_none h)
/-- What cutting answers. -/
abbrev cutV (c : Bs × Bs × Bool) : Ending := .returned (.tuple #[str c.1, str c.2.1, .bool c.2.2])
theorem cut_ret {c d : Bs × Bs × Bool} (h : d = c) : cutV c = cutV d := by rw [h]

set_option maxHeartbeats 1000000 in
theorem rcut_any (l sep : Bs) (w : World) (hl : l.length ≤ 10000000) (hs1 : 1 ≤ sep.length) (hs2 : sep.length ≤ 1000) :
    Calls Tryz.prog 106 #[str l, str sep] w fun e w' => e = cutV (Lib.cut l sep) ∧ ∃ n, w' = w.drewN n := by
  go_enter Tryz.func106, Tryz.ntmps106
  go_wp2
  go_loop [7] (fun i => ∃ k : Nat, k ≤ l.length ∧ i = .int .i64 k ∧ ∀ j, j < k → Lib.occAt l sep j = false) (fun i => l.length - (intOf i).toNat)
  case atStart => exact ⟨0, Nat.zero_le _, rfl, fun j hj => absurd hj (by omega)⟩
  case round =>
    obtain ⟨k, hk, rfl, hno⟩ := hrel
    have HN : Hid (∀ j, j < k → Lib.occAt l sep j = false) := hno
    clear hno
    by_cases hlt : k + sep.length ≤ l.length
    · have hlt' : (k : Int) + (sep.length : Int) ≤ (l.length : Int) := by omega
      have HE : (⟨l.toArray⟩ : ByteArray).extract k (k + sep.length) = ⟨((l.drop k).take sep.length).toArray⟩ := by rw [ext_drop_take]; congr 4; omega
      have HO : Hid (Lib.occAt l sep k = ((l.drop k).take sep.length == sep)) := occ_eq
      cases ho : ((l.drop k).take sep.length == sep) with
      | true =>
        have HC : Hid (Lib.cut l sep = (l.take k, l.drop (k + sep.length), true)) := cut_found (by omega) (HO.out.trans ho) HN.out
        have he := eq_of_beq ho
        have X1 : (⟨l.toArray⟩ : ByteArray).extract 0 k = ⟨(l.take k).toArray⟩ := by rw [ext_drop_take]; simp
        have X2 : (⟨l.toArray⟩ : ByteArray).extract (k + sep.length) l.length = ⟨(l.drop (k + sep.length)).toArray⟩ := by rw [ext_drop_take, List.take_of_length_le (by simp)]
        clear ho
        have c1 : (0 : Int) ≤ (k : Int) := by omega
        have c2 : (k : Int) ≤ (l.length : Int) := by omega
        have c3 : (0 : Int) ≤ (k : Int) + (sep.length : Int) := by omega
        go_wp2
        go_region
        go_wp2
        go_ret3
        refine ⟨?_, 1, rfl⟩
        show Ending.returned (Value.tuple #[str (l.take k), Value.string ((⟨l.toArray⟩ : ByteArray).extract (k + sep.length) l.length), .bool true]) = _
        rw [X2, HC.out]
      | false =>
        go_wp2
        go_round
        case rel =>
          refine ⟨k + 1, by omega, by go_num, fun j hj => ?_⟩
          by_cases hjk : j < k
          · exact HN.out j hjk
          · obtain rfl : j = k := by omega
            exact HO.out.trans ho
        case measure => simp [intOf]; omega
    · have hlt' : ¬ ((k : Int) + (sep.length : Int) ≤ (l.length : Int)) := by omega
      have HC : Hid (Lib.cut l sep = (l, [], false)) := cut_none fun j hj => by
        by_cases hjk : j < k
        · exact HN.out j hjk
        · exact occ_far (by omega) hs1
      go_wp2
      go_ret3
      exact ⟨cut_ret HC.out, 0, rfl⟩

/-- A row of texts of the call's own. -/
def srow (w : World) (B : Nat) (v : Value) (l : List Bs) : Prop := w.ownsRow B 9 1 v l.length (l.map str)
theorem Tryz.infoS : (Tryz.prog.info? 9).map (fun i => (i.zero, i.size, i.bytes)) = some (some (.string ⟨#[]⟩), 1, 16) := by kernel_rfl
theorem srow.lt {w : World} {B : Nat} {v : Value} {l : List Bs} (h : srow w B v l) : ∀ k, v.ownBlock = some k → B ≤ k := fun k hk => (World.ownsRow.lt h k hk).1
theorem srow.alloc {w : World} {B : Nat} {v : Value} {l : List Bs} (h : srow w B v l) (o : Obj) : srow (w.alloc o) B v l := World.ownsRow.alloc h o
theorem srow_nil (w : World) (B : Nat) : srow w B (.slice none 0 0) [] := World.ownsRow_nil w B 9 1
theorem srow.drewN {w : World} {B : Nat} {v : Value} {l : List Bs} (h : srow w B v l) (n : Nat) : srow (w.drewN n) B v l := h
theorem sapp_law {w : World} {ops : Array Oper} {rest : List Oper} {o : Oper} {a : Act} {Q : Exit → Act → World → Prop} (hgd : o.guard = none) (s x : Operand)
    (ho : o.op = .call { callee := .builtin .append, args := #[s, x], argTypes := #[69, 69] })
    (B : Nat) (l : List Bs) (p : Bs) (v : Value) (hs : a.eval s = v) (hown : srow w B v l) (H : Nat) (hx : a.eval x = .slice (some ⟨H, 0, none⟩) 1 1)
    (fr : Nat × Nat) (hblk : w.heap[H]? = some (.cells #[str p] 9 fr)) (hlen : l.length ≤ 1000000000) (hB : B ≤ w.heap.size)
    (h : ∀ v' w', srow w' B v' (l ++ [p]) → w.grownBy w' v.ownBlock → Below B w w' → wpList Tryz.prog ops Q rest (a.put o.dst v') w') : wpList Tryz.prog ops Q (o :: rest) a w := by
  obtain ⟨i0, hi, hz0, hz1, hz2⟩ := info_parts Tryz.infoS
  refine wpList_append_lies _ hgd s x 69 ho B 9 i0 (.string ⟨#[]⟩) 1 16 Tryz.underlying69 hi hz0 hz1 hz2 rfl (by omega) v l.length (l.map str) hs hown ⟨H, 0, none⟩ 1 1 [str p] hx (by simp)
    (fun j u hu => World.news_of_block hblk j u (by simpa using hu)) (by intro u hu; simp at hu; subst hu; rfl) (by omega) (by unfold maxLen; omega) (by omega) hB w.heap.size rfl ?_
  intro g cap w' h1 h2 _ _
  refine h _ w' ?_ h2 ((Below.refl B w).grown h2 hB hown.lt)
  unfold srow
  rw [List.length_append, List.map_append]
  exact h1
theorem srow.form {w : World} {B : Nat} {v : Value} {l : List Bs} (h : srow w B v l) (hl : l ≠ []) : ∃ g cap, v = .slice (some ⟨g, 0, none⟩) l.length cap ∧ B ≤ g ∧ g < w.heap.size ∧ ∀ k (hk : k < l.length), w.cell? ⟨g, k, none⟩ = some (str l[k]) := by
  have hb := World.ownsRow.lt h
  have hc := fun g hv => World.ownsRow.cells h (g := g) hv
  obtain ⟨h1, ⟨rfl, hn⟩ | ⟨g, cap, cur, rfl, hg, _⟩⟩ := h
  · exact absurd (List.eq_nil_of_length_eq_zero hn) hl
  · refine ⟨g, cap, rfl, hg, (hb g rfl).2, fun k hk => ?_⟩
    have c1 := hc g rfl k (str l[k]) (by simp [hk])
    simpa [Addr.add_lit] using c1
def moreN : Value → Nat
  | .bool true => 1
  | _ => 0
theorem moreN_t : moreN (.bool true) = 1 := rfl
theorem moreN_f : moreN (.bool false) = 0 := rfl
def lenS : Value → Nat
  | .string s => s.size
  | _ => 0
theorem lenS_str (l : Bs) : lenS (str l) = l.length := by simp [lenS, ByteArray.size]
theorem split_more {s sep : Bs} (hs : sep ≠ []) (h : (Lib.cut s sep).2.2 = true) : Lib.split s sep = (Lib.cut s sep).1 :: Lib.split (Lib.cut s sep).2.1 sep := by rw [split_rec s sep hs, if_pos h]
theorem split_last {s sep : Bs} (hs : sep ≠ []) (h : (Lib.cut s sep).2.2 = false) : Lib.split s sep = [(Lib.cut s sep).1] := by
  rw [split_rec s sep hs, if_neg (by simp [h])]
  unfold Lib.cut at h ⊢
  split <;> simp_all
theorem cut_rest {s sep : Bs} (h : (Lib.cut s sep).2.2 = false) : (Lib.cut s sep).2.1 = [] := by
  unfold Lib.cut at h ⊢
  split <;> simp_all
set_option maxHeartbeats 1000000 in
theorem rsplit_any (l sep : Bs) (w : World) (hl : l.length ≤ 2000000) (hs1 : 1 ≤ sep.length) (hs2 : sep.length ≤ 1000) :
    Calls Tryz.prog 66 #[str l, str sep] w fun e w' => ∃ v, e = .returned v ∧ srow w' w.heap.size v (Lib.split l sep) ∧ Below w.heap.size w w' := by
  have hsn : sep ≠ [] := by intro h; subst h; simp at hs1
  have C : Hid (_) := fun x => rcut_any x sep
  go_enter Tryz.func66, Tryz.ntmps66
  go_wp2
  go_loopw [0, 5, 6] (fun x v m wr => (∃ (o : List Bs) (r : Bs), x = str r ∧ m = .bool true ∧ srow wr w.heap.size v o ∧ Below w.heap.size w wr ∧ Lib.split l sep = o ++ Lib.split r sep ∧ r.length ≤ 2000000 ∧ o.length + r.length ≤ l.length) ∨
    (x = str [] ∧ m = .bool false ∧ srow wr w.heap.size v (Lib.split l sep) ∧ Below w.heap.size w wr)) (fun x _ m _ => 2 * lenS x + moreN m)
  case atStart => exact .inl ⟨[], l, rfl, rfl, srow_nil _ _, Below.refl _ _, by simp, hl, by simp⟩
  case round =>
    rcases hrel with ⟨o, r, rfl, rfl, hrow, hb, hsp, hr, hor⟩ | ⟨rfl, rfl, hrow, hb⟩
    · have HS : Hid (Lib.split l sep = o ++ Lib.split r sep) := hsp
      clear hsp
      have hcl := cut_len sep r
      have S1 := @split_more r sep hsn
      have S2 := @split_last r sep hsn
      have S3 := @cut_rest r sep
      have hsz := hb.size
      have C2 : Hid (_) := C.out r
      have HL : Hid (lenS (str r) = r.length) := lenS_str r
      generalize Lib.cut r sep = c at *
      obtain ⟨a, b, f⟩ := c
      simp only at S1 S2 S3 hcl
      cases f with
      | true =>
        have HX : Hid (Lib.split l sep = (o ++ [a]) ++ Lib.split b sep) := by show _ = _; rw [HS.out, S1 rfl]; simp
        simp only [if_true] at hcl
        clear S1 S2
        go_wp2_with (first | (go_at_call 106; refine (C2.out _ (by omega) hs1 hs2).mono ?_; rintro e w' ⟨rfl, n, rfl⟩) | (at_builtin; refine sapp_law rfl _ _ rfl w.heap.size o a _ rfl ((hrow.drewN n).alloc _) _ rfl _ (heap_alloc_new _ _) (by omega) (by simp; omega) ?_; intro v' w2 hrow2 _ hb2))
        go_roundw
        case rel => exact .inl ⟨o ++ [a], b, rfl, rfl, hrow2, ((below_drewN hb n).alloc (by simp; omega) _).trans hb2, HX.out, by omega, by simp; omega⟩
        case measure => rw [HL.out, lenS_str, moreN_t]; omega
      | false =>
        have HX : Hid (Lib.split l sep = o ++ [a]) := by show _ = _; rw [HS.out, S2 rfl]
        simp only [Bool.false_eq_true, if_false] at hcl
        clear S1 S2
        obtain rfl := S3 rfl
        go_wp2_with (first | (go_at_call 106; refine (C2.out _ (by omega) hs1 hs2).mono ?_; rintro e w' ⟨rfl, n, rfl⟩) | (at_builtin; refine sapp_law rfl _ _ rfl w.heap.size o a _ rfl ((hrow.drewN n).alloc _) _ rfl _ (heap_alloc_new _ _) (by omega) (by simp; omega) ?_; intro v' w2 hrow2 _ hb2))
        go_roundw
        case rel => exact .inr ⟨rfl, rfl, by rw [HX.out]; exact hrow2, ((below_drewN hb n).alloc (by simp; omega) _).trans hb2⟩
        case measure => rw [HL.out, lenS_str, moreN_f, moreN_t]; omega
    · go_wp2
      go_ret
      exact ⟨_, rfl, hrow, hb⟩
end Go.Proofs.YtinnliapfdpfpaaGreatDoor.R
