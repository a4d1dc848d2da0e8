/-
  THE PROGRAM's lastBlocks: the rest of a text, filled up.
  PLAIN: what finish tells is the digest.
-/
import Derived.Test.YtinnliapfdpfpaaGreatDoorMDigits
import Derived.Lib.LazyBuf
namespace Go.Proofs.YtinnliapfdpfpaaGreatDoor
open Go.RowKit
theorem size_byte (w : World) : (Go.sizeOf 5).run Tryz.prog w = .ok 1 w := by
  obtain ⟨i0, hi, hz0, hz1, hz2⟩ := info_parts Tryz.infoByte
  simp [Go.sizeOf, typeInfo, hi, hz1]
theorem made_arr8 {w : World} {B g n c : Nat} (h : w.ownsRow B 5 1 (.slice (some ⟨g, 0, none⟩) n c) n (madeCells (Value.int .u8 0).cells (n * 1)).toList) : arr8 w g (fun _ => 0) n := by
  intro j hj
  have hc := World.ownsRow.cells h (g := g) rfl j (.int .u8 0) (by simp [madeCells, hj, Value.cells, Nat.mod_one])
  have e : (⟨g, 0, none⟩ : Addr).add j = ⟨g, j, none⟩ := by unfold Addr.add; split <;> simp_all
  rw [e] at hc
  refine ⟨hc, ?_⟩
  obtain ⟨_, ⟨h1, _⟩ | ⟨g', cap, cur, e1, e2, e3, _⟩⟩ := h
  · cases h1
  · cases e1
    simp [World.frozen?, e3]
theorem arr8.cells {b n : Nat} : ∀ (l : List UInt8) (o : Nat) (f : Nat → Nat) (w : World), arr8 w b f n → o + l.length ≤ n →
    arr8 (w.setCells b o (l.map fun x => Value.int .u8 (x.toNat : Int))) b (fun j => if o ≤ j ∧ j < o + l.length then (l.getD (j - o) 0).toNat else f j) n
  | [], o, f, w, h, _ => h.congr fun j _ => by rw [if_neg (by simp)]
  | c :: l, o, f, w, h, hn => by
    have h1 := h.set o c.toNat (by simp at hn; omega)
    have h2 := arr8.cells l (o + 1) _ _ h1 (by simp at hn; omega)
    refine h2.congr fun j _ => ?_
    by_cases e1 : o + 1 ≤ j ∧ j < o + 1 + l.length
    · rw [if_pos e1, if_pos (by simp; omega)]
      rw [show j - o = (j - (o + 1)) + 1 from by omega]
      rfl
    · rw [if_neg e1]
      by_cases e2 : j = o
      · subst e2; simp
      · rw [if_neg e2, if_neg (by simp; omega)]
theorem wpList_copy_str {ops : Array Oper} {rest : List Oper} {o : Oper} {a : Act} {w : World} {Q : Exit → Act → World → Prop} (hg : o.guard = none) (d x : Operand) (dT sT : TypeId)
    (hop : o.op = Op.call { callee := Callee.builtin Builtin.copy, args := #[d, x], argTypes := #[dT, sT] })
    (elem : TypeId) (hu : Tryz.prog.underlying dT = some (.slice elem)) (hz : ∀ w, (Go.sizeOf elem).run Tryz.prog w = .ok 1 w)
    (b dLen dCap : Nat) (hd : a.eval d = .slice (some ⟨b, 0, none⟩) dLen dCap) (t : List UInt8) (hx : a.eval x = .string ⟨t.toArray⟩) {f : Nat → Nat} (har : arr8 w b f dLen) (hn : t.length ≤ dLen)
    (hK : ∀ w', arr8 w' b (fun j => if j < t.length then (t.getD j 0).toNat else f j) dLen → Below b w w' → wpList Tryz.prog ops Q rest (a.put o.dst (goInt t.length)) w') : wpList Tryz.prog ops Q (o :: rest) a w := by
  refine wpList_plain hg fun K hK' => ?_
  have hts : (⟨t.toArray⟩ : ByteArray).size = t.length := by simp [ByteArray.size]
  have hrun := run_copy_string (P := Tryz.prog) w dT sT o.type elem b 0 dLen dCap ⟨t.toArray⟩ hu hz (by omega) (fun j hj => by rw [Nat.zero_add, (har j (by omega)).1]; rfl) (fun j hj => by rw [Nat.zero_add]; exact (har j (by omega)).2)
  rw [hts] at hrun
  unfold Oper.wp
  simp [execOp, hop, resolve, invoke, builtin, hd, hx, hrun, Result.andThen]
  refine hK' _ _ (hK _ ((arr8.cells t 0 f w har (by omega)).congr fun j _ => by simp) (below_setCells _ _ _ _ (Nat.le_refl _)))
def lastL (rest : List UInt8) (L : Nat) : List UInt8 := rest ++ [128] ++ List.replicate (zs rest.length) 0 ++ bigL (8 * L) 8
theorem last_len (rest : List UInt8) (L : Nat) : (lastL rest L).length = rest.length + 9 + zs rest.length := by simp [lastL, bigL_len]; omega
/-- What lies at a place when k bytes of the length are told. -/
def lastF (rest : List UInt8) (L S k : Nat) (j : Nat) : Nat :=
  if S - k ≤ j then 8 * L / 256 ^ (S - 1 - j) % 256 else if j = rest.length then 128 else if j < rest.length then (rest.getD j 0).toNat else 0
theorem lastF_succ (rest : List UInt8) (L S k : Nat) (hk : k + 1 ≤ S) : ∀ j, j < S → (if j = S - 1 - k then 8 * L / 256 ^ k % 256 else lastF rest L S k j) = lastF rest L S (k + 1) j := by
  intro j hj
  unfold lastF
  by_cases e : j = S - 1 - k
  · rw [if_pos e, if_pos (show S - (k + 1) ≤ j by omega), show S - 1 - j = k from by omega]
  · rw [if_neg e]
    by_cases e2 : S - k ≤ j
    · rw [if_pos e2, if_pos (show S - (k + 1) ≤ j by omega)]
    · rw [if_neg e2, if_neg (show ¬ S - (k + 1) ≤ j by omega)]
theorem bigL_get (n k j : Nat) (hj : j < k) : ((bigL n k).getD j 0).toNat = n / 256 ^ (k - 1 - j) % 256 := by
  induction k generalizing j with
  | zero => omega
  | succ k ih =>
    cases j with
    | zero => simp [bigL]
    | succ j =>
      have := ih j (by omega)
      simp only [bigL, List.getD_cons_succ]
      rw [this, show k + 1 - 1 - (j + 1) = k - 1 - j from by omega]
theorem conv_arr8 (l : List UInt8) (n c : Nat) (hl : l.length = n) (w : World) (b : Nat) (h : arr8 w b (fun j => (l.getD j 0).toNat) n) : (convert 89 9 (.slice (some ⟨b, 0, none⟩) n c)).run Tryz.prog w = .ok (.string ⟨l.toArray⟩) w := by
  subst hl
  refine run_convert_bytes_back w 89 9 5 ⟨b, 0, none⟩ c l Tryz.underlying89 Tryz.underlying5 Tryz.underlying9 fun j hj => ?_
  have e : (⟨b, 0, none⟩ : Addr).add j = ⟨b, j, none⟩ := by unfold Addr.add; split <;> simp_all
  have h1 := (h j hj).1
  simp only [List.getD_eq_getElem?_getD, List.getElem?_eq_getElem hj, Option.getD_some] at h1
  rw [e]; exact h1
theorem getD_app (a b : List UInt8) (j : Nat) : (a ++ b).getD j 0 = if j < a.length then a.getD j 0 else b.getD (j - a.length) 0 := by
  simp only [List.getD_eq_getElem?_getD, List.getElem?_append]
  split <;> rfl
theorem last_get (rest : List UInt8) (L S : Nat) (hs : rest.length + 9 + zs rest.length = S) : ∀ j, j < S → lastF rest L S 8 j = ((lastL rest L).getD j 0).toNat := by
  intro j hj
  have hA : (rest ++ [128] ++ List.replicate (zs rest.length) (0 : UInt8)).length = S - 8 := by simp; omega
  have hB : (rest ++ [(128 : UInt8)]).length = rest.length + 1 := by simp
  unfold lastF lastL
  rw [getD_app, hA]
  by_cases e1 : S - 8 ≤ j
  · rw [if_pos e1, if_neg (show ¬ j < S - 8 by omega), bigL_get (8 * L) 8 (j - (S - 8)) (by omega), show 8 - 1 - (j - (S - 8)) = S - 1 - j from by omega]
  · rw [if_neg e1, if_pos (show j < S - 8 by omega), getD_app, hB]
    by_cases e2 : j = rest.length
    · rw [if_pos e2, if_pos (show j < rest.length + 1 by omega), getD_app, if_neg (show ¬ j < rest.length by omega), e2, Nat.sub_self]; rfl
    · rw [if_neg e2]
      by_cases e3 : j < rest.length
      · rw [if_pos e3, if_pos (show j < rest.length + 1 by omega), getD_app, if_pos e3]
      · rw [if_neg e3, if_neg (show ¬ j < rest.length + 1 by omega), List.getD_eq_getElem?_getD, List.getElem?_replicate]
        split <;> rfl
set_option maxRecDepth 100000 in
set_option maxHeartbeats 1000000 in
theorem last_any (rest : List UInt8) (L : Nat) (hr : rest.length < 64) (hL : L < 1000000000000000) (w : World) :
    Calls Tryz.prog 146 #[.string ⟨rest.toArray⟩, .int .u64 L] w fun e w' => e = .returned (.string ⟨(lastL rest L).toArray⟩) ∧ Below w.heap.size w w' := by
  by_cases hbig : 55 < rest.length
  · have hs : rest.length + 9 + zs rest.length = 128 := by unfold zs; omega
    obtain ⟨i0, hi, hz0, hz1, hz2⟩ := info_parts Tryz.infoByte
    have HLG := last_get rest L 128 hs
    have HLL : Hid ((lastL rest L).length = 128) := by show _ = _; rw [last_len]; omega
    have hrs : rest.length < 128 := by omega
    have hr9 : rest.length + 9 ≤ 128 := by omega
    clear hs
    go_enter Tryz.func146, Tryz.ntmps146
    go_wp2_with (first | (at_make; refine wpList_make_full _ rfl _ _ 89 rfl w.heap.size 5 i0 (.int .u8 0) 1 Tryz.underlying89 hi hz0 hz1 .i64 .i64 _ _ 128 rfl rfl rfl rfl (by rw [hz2]; omega) (by unfold maxLen; omega) (Nat.le_refl _) ?_; intro w1 hown1 hg1; have ha1 := made_arr8 hown1; have hb1 := (Below.refl w.heap.size w).grown hg1 (Nat.le_refl _) (by simp); clear hown1 hg1) | (refine wpList_copy_str rfl _ _ 89 9 rfl 5 Tryz.underlying89 size_byte w.heap.size 128 128 rfl rest rfl ha1 (by omega) ?_; intro w2 ha2 hb2; obtain ⟨c2, f2⟩ := ha2 rest.length hrs; have hB2 := hb1.trans hb2; clear hb1 hb2 ha1))
    clear hi hz0 hz1 hz2 i0
    go_loopw [25] (fun i wr => ∃ k : Nat, k ≤ 8 ∧ i = .int .i64 k ∧ arr8 wr w.heap.size (lastF rest L 128 k) 128 ∧ Below w.heap.size w wr) (fun i _ => 8 - (intOf i).toNat)
    case atStart =>
      refine ⟨0, by omega, rfl, ?_, hB2.setCell (Nat.le_refl _) _⟩
      refine (ha2.set rest.length 128 hrs).congr fun j hj => ?_
      unfold lastF
      rw [if_neg (show ¬ 128 - 0 ≤ j by omega)]
    case round =>
      clear ha2 c2 f2 hB2
      obtain ⟨k, hk, rfl, har, hbel⟩ := hrel
      by_cases hlt : k < 8
      · obtain ⟨ck, fk⟩ := har (128 - 1 - k) (by omega)
        have HF : Hid (∀ j, j < 128 → (if j = 128 - 1 - k then 8 * L / 256 ^ k % 256 else lastF rest L 128 k j) = lastF rest L 128 (k + 1) j) := lastF_succ rest L 128 k (by omega)
        have t1 : (128 - 1 - (k : Int)).toNat = 128 - 1 - k := by omega
        have e8 : (2 : Int) ^ (8 * k) = ((256 ^ k : Nat) : Int) := by rw [Int.pow_mul]; simp
        go_wp2
        go_roundw
        case rel =>
          have e : ((L : Int) * 8 / 256 ^ k % 256) = ((8 * L / 256 ^ k % 256 : Nat) : Int) := by simp; rw [Int.mul_comm]
          rw [e]
          exact ⟨k + 1, by omega, by go_num, (har.set (128 - 1 - k) _ (by omega)).congr HF.out, hbel.setCell (Nat.le_refl _) _⟩
        case measure => simp [intOf]; omega
      · have ha8 : arr8 wr w.heap.size (fun j => ((lastL rest L).getD j 0).toNat) 128 := by
          rw [show k = 8 from by omega] at har
          exact har.congr HLG
        have hcv := conv_arr8 (lastL rest L) 128 128 HLL.out wr w.heap.size ha8
        clear ha8 har HLG
        generalize hqg : lastL rest L = q at *
        have HQG : Hid (lastL rest L = q) := hqg
        clear hqg
        have hdk : decide ((k : Int) < 8) = false := by simp; omega
        go_wp2_with fail
        go_ret
        exact ⟨ret_str HQG.out.symm, hbel⟩
  · have hs : rest.length + 9 + zs rest.length = 64 := by unfold zs; omega
    obtain ⟨i0, hi, hz0, hz1, hz2⟩ := info_parts Tryz.infoByte
    have HLG := last_get rest L 64 hs
    have HLL : Hid ((lastL rest L).length = 64) := by show _ = _; rw [last_len]; omega
    have hrs : rest.length < 64 := by omega
    have hr9 : rest.length + 9 ≤ 64 := by omega
    clear hs
    go_enter Tryz.func146, Tryz.ntmps146
    go_wp2_with (first | (at_make; refine wpList_make_full _ rfl _ _ 89 rfl w.heap.size 5 i0 (.int .u8 0) 1 Tryz.underlying89 hi hz0 hz1 .i64 .i64 _ _ 64 rfl rfl rfl rfl (by rw [hz2]; omega) (by unfold maxLen; omega) (Nat.le_refl _) ?_; intro w1 hown1 hg1; have ha1 := made_arr8 hown1; have hb1 := (Below.refl w.heap.size w).grown hg1 (Nat.le_refl _) (by simp); clear hown1 hg1) | (refine wpList_copy_str rfl _ _ 89 9 rfl 5 Tryz.underlying89 size_byte w.heap.size 64 64 rfl rest rfl ha1 (by omega) ?_; intro w2 ha2 hb2; obtain ⟨c2, f2⟩ := ha2 rest.length hrs; have hB2 := hb1.trans hb2; clear hb1 hb2 ha1))
    clear hi hz0 hz1 hz2 i0
    go_loopw [25] (fun i wr => ∃ k : Nat, k ≤ 8 ∧ i = .int .i64 k ∧ arr8 wr w.heap.size (lastF rest L 64 k) 64 ∧ Below w.heap.size w wr) (fun i _ => 8 - (intOf i).toNat)
    case atStart =>
      refine ⟨0, by omega, rfl, ?_, hB2.setCell (Nat.le_refl _) _⟩
      refine (ha2.set rest.length 128 hrs).congr fun j hj => ?_
      unfold lastF
      rw [if_neg (show ¬ 64 - 0 ≤ j by omega)]
    case round =>
      clear ha2 c2 f2 hB2
      obtain ⟨k, hk, rfl, har, hbel⟩ := hrel
      by_cases hlt : k < 8
      · obtain ⟨ck, fk⟩ := har (64 - 1 - k) (by omega)
        have HF : Hid (∀ j, j < 64 → (if j = 64 - 1 - k then 8 * L / 256 ^ k % 256 else lastF rest L 64 k j) = lastF rest L 64 (k + 1) j) := lastF_succ rest L 64 k (by omega)
        have t1 : (64 - 1 - (k : Int)).toNat = 64 - 1 - k := by omega
        have e8 : (2 : Int) ^ (8 * k) = ((256 ^ k : Nat) : Int) := by rw [Int.pow_mul]; simp
        go_wp2
        go_roundw
        case rel =>
          have e : ((L : Int) * 8 / 256 ^ k % 256) = ((8 * L / 256 ^ k % 256 : Nat) : Int) := by simp; rw [Int.mul_comm]
          rw [e]
          exact ⟨k + 1, by omega, by go_num, (har.set (64 - 1 - k) _ (by omega)).congr HF.out, hbel.setCell (Nat.le_refl _) _⟩
        case measure => simp [intOf]; omega
      · have ha8 : arr8 wr w.heap.size (fun j => ((lastL rest L).getD j 0).toNat) 64 := by
          rw [show k = 8 from by omega] at har
          exact har.congr HLG
        have hcv := conv_arr8 (lastL rest L) 64 64 HLL.out wr w.heap.size ha8
        clear ha8 har HLG
        generalize hqg : lastL rest L = q at *
        have HQG : Hid (lastL rest L = q) := hqg
        clear hqg
        have hdk : decide ((k : Int) < 8) = false := by simp; omega
        go_wp2_with fail
        go_ret
        exact ⟨ret_str HQG.out.symm, hbel⟩
end Go.Proofs.YtinnliapfdpfpaaGreatDoor
namespace Go.Proofs.YtinnliapfdpfpaaGreatDoor
/-- What finish tells. -/
def finM (st : List Nat) (l : List UInt8) : List Nat := mixN (l.take (64 * (l.length / 64))) st (l.length / 64)
def finL (st : List Nat) (l : List UInt8) (before : Nat) : List UInt8 :=
  outL (mixN (lastL (l.drop (64 * (l.length / 64))) (before + l.length)) (finM st l) ((lastL (l.drop (64 * (l.length / 64))) (before + l.length)).length / 64)) 8
theorem byteAt_left (a b : List UInt8) (i : Nat) (h : i < a.length) : byteAt (a ++ b) i = byteAt a i := by
  unfold byteAt; rw [getD_app, if_pos h]
theorem byteAt_right (a b : List UInt8) (i : Nat) : byteAt (a ++ b) (a.length + i) = byteAt b i := by
  unfold byteAt; rw [getD_app, if_neg (by omega), Nat.add_sub_cancel_left]
theorem wpart_left (a b : List UInt8) (p k : Nat) (h : p + k ≤ a.length) : wpart (a ++ b) p k = wpart a p k := by
  induction k with
  | zero => rfl
  | succ k ih => simp only [wpart]; rw [ih (by omega), byteAt_left a b (p + k) (by omega)]
theorem wpart_right (a b : List UInt8) (p k : Nat) : wpart (a ++ b) (a.length + p) k = wpart b p k := by
  induction k with
  | zero => rfl
  | succ k ih => simp only [wpart]; rw [ih, Nat.add_assoc, byteAt_right]
theorem firsts_left (a b : List UInt8) (p k : Nat) (h : p + 4 * k ≤ a.length) : firsts (a ++ b) p k = firsts a p k := by
  induction k with
  | zero => rfl
  | succ k ih => simp only [firsts]; rw [ih (by omega), wpart_left a b _ 4 (by omega)]
theorem firsts_right (a b : List UInt8) (p k : Nat) : firsts (a ++ b) (a.length + p) k = firsts b p k := by
  induction k with
  | zero => rfl
  | succ k ih => simp only [firsts]; rw [ih, Nat.add_assoc, wpart_right]
theorem mixN_left (a b : List UInt8) (h : List Nat) (n : Nat) (hn : 64 * n ≤ a.length) : mixN (a ++ b) h n = mixN a h n := by
  induction n with
  | zero => rfl
  | succ n ih => simp only [mixN]; rw [ih (by omega), firsts_left a b _ 16 (by omega)]
theorem mixN_right (a b : List UInt8) (h : List Nat) (m n : Nat) (hm : a.length = 64 * m) : mixN (a ++ b) h (m + n) = mixN b (mixN a h m) n := by
  induction n with
  | zero => exact mixN_left a b h m (by omega)
  | succ n ih => rw [← Nat.add_assoc]; simp only [mixN]; rw [ih, Nat.mul_add, ← hm, firsts_right]
theorem fin_digest (B l : List UInt8) (k : Nat) (hB : B.length = 64 * k) : finL (mixN B hL k) l (64 * k) = digest (B ++ l) := by
  unfold finL finM digest
  generalize hm : l.length / 64 = m
  have htl : (l.take (64 * m)).length = 64 * m := by rw [List.length_take]; omega
  have hdl : (l.drop (64 * m)).length = l.length - 64 * m := List.length_drop
  have hz : zs (B ++ l).length = zs (l.drop (64 * m)).length := by
    rw [hdl, List.length_append, hB]; unfold zs; omega
  have hp : pad (B ++ l) = (B ++ l.take (64 * m)) ++ lastL (l.drop (64 * m)) (64 * k + l.length) := by
    unfold pad lastL
    rw [hz, List.length_append, hB]
    simp only [← List.append_assoc]
    rw [List.append_assoc B (l.take (64 * m)), List.take_append_drop]
  have hbl : (B ++ l.take (64 * m)).length = 64 * (k + m) := by rw [List.length_append, hB, htl]; omega
  rw [hp]
  generalize lastL (l.drop (64 * m)) (64 * k + l.length) = q
  have e : ((B ++ l.take (64 * m)) ++ q).length / 64 = (k + m) + q.length / 64 := by rw [List.length_append, hbl]; omega
  rw [e, mixN_right _ _ _ (k + m) _ hbl, mixN_right _ _ _ k m hB]
theorem fin_hash (l : List UInt8) : finL hL l 0 = digest l := fin_digest [] l 0 rfl
theorem outL_get (h : List Nat) (k j : Nat) (hj : j < 4 * k) : ((outL h k).getD j 0).toNat = outAt h j := by
  induction k with
  | zero => omega
  | succ k ih =>
    simp only [outL]
    rw [getD_app, outL_len]
    by_cases e : j < 4 * k
    · rw [if_pos e, ih e]
    · rw [if_neg e, bigL_get _ 4 _ (by omega)]
      unfold outAt
      rw [show j / 4 = k from by omega, show j % 4 = j - 4 * k from by omega]
      have : j - 4 * k = 0 ∨ j - 4 * k = 1 ∨ j - 4 * k = 2 ∨ j - 4 * k = 3 := by omega
      rcases this with e | e | e | e <;> rw [e]
theorem out_bytes (h : List Nat) : ((List.range 32).map (outAt h)).map (fun x : Nat => Value.int .u8 (x : Int)) = (outL h 8).map u8v := by
  apply List.ext_getElem?
  intro j
  by_cases hj : j < 32
  · have := outL_get h 8 j (by omega)
    have hl : j < (outL h 8).length := by rw [outL_len]; omega
    simp only [List.getD_eq_getElem?_getD, List.getElem?_eq_getElem hl, Option.getD_some] at this
    simp [hj, List.getElem?_eq_getElem hl, u8v, ← this]
  · have hl : ¬ j < (outL h 8).length := by rw [outL_len]; omega
    rw [List.getElem?_eq_none (by simp; omega), List.getElem?_eq_none (by simp [outL_len]; omega)]
theorem cut_to (l : List UInt8) (p : Nat) : (⟨l.toArray⟩ : ByteArray).extract 0 p = ⟨(l.take p).toArray⟩ := by
  apply ByteArray.ext; simp
theorem cut_from (l : List UInt8) (p : Nat) : (⟨l.toArray⟩ : ByteArray).extract p l.length = ⟨(l.drop p).toArray⟩ := by
  apply ByteArray.ext; simp [List.take_of_length_le]
end Go.Proofs.YtinnliapfdpfpaaGreatDoor
