import Derived.Test.YtaeabbmekmjcaaaCLeaf
import Derived.Deep.AppendLies
import Derived.Deep.RegionLaw
import Derived.Laws.BitsLemmas
import Derived.Laws.BytesArg
import Derived.Laws.IdiomStrings
namespace Go.Proofs.Ytaeabbmekmjcaaa.C
open Go.RowKit
theorem Try.info5 : (Try.prog.info? 5).map (fun i => (i.zero, i.size, i.bytes)) = some (some (.int .u8 0), 1, 1) := by kernel_rfl
def u8v (c : UInt8) : Value := .int .u8 (c.toNat : Int)
def owns (w : World) (B : Nat) (v : Value) (l : List UInt8) : Prop := w.ownsRow B 5 1 v l.length (l.map u8v)
theorem owns.lt {w : World} {B : Nat} {v : Value} {l : List UInt8} (h : owns w B v l) : ∀ k, v.ownBlock = some k → B ≤ k := fun k hk => (World.ownsRow.lt h k hk).1
theorem owns.alloc {w : World} {B : Nat} {v : Value} {l : List UInt8} (h : owns w B v l) (o : Obj) : owns (w.alloc o) B v l := World.ownsRow.alloc h o

theorem app_law {w : World} {ops : Array Oper} {rest : List Oper} {o : Oper} {a : Act} {Q : Exit → Act → World → Prop} (hgd : o.guard = none) (s x : Operand)
    (ho : o.op = .call { callee := .builtin .append, args := #[s, x], argTypes := #[30, 30] })
    (B : Nat) (l m : List UInt8) (v : Value) (hs : a.eval s = v) (hown : owns w B v l) (H : Nat) (n : Nat) (hn : m.length = n) (hx : a.eval x = .slice (some ⟨H, 0, none⟩) n n)
    (fr : Nat × Nat) (hblk : w.heap[H]? = some (.cells (m.map u8v).toArray 5 fr)) (hm : 0 < n) (hlen : l.length + n ≤ 100000000000) (hB : B ≤ w.heap.size)
    (h : ∀ v' w', owns w' B v' (l ++ m) → Below B w w' → wpList Try.prog ops Q rest (a.put o.dst v') w') : wpList Try.prog ops Q (o :: rest) a w := by
  obtain ⟨i0, hi, hz0, hz1, hz2⟩ := info_parts Try.info5
  subst hn
  refine wpList_append_lies _ hgd s x 30 ho B 5 i0 (.int .u8 0) 1 1 Try.underlying30 hi hz0 hz1 hz2 rfl (by omega) v l.length (l.map u8v) hs hown ⟨H, 0, none⟩ m.length m.length (m.map u8v) hx (by simp)
    (fun j u hu => World.news_of_block hblk j u (by simpa using hu)) (by intro u hu; simp at hu; obtain ⟨c, _, rfl⟩ := hu; rfl) hm (by unfold maxLen; omega) (by omega) hB w.heap.size rfl ?_
  intro g cap w' h1 h2 _ _
  exact h _ w' (by simpa [owns] using h1) ((Below.refl B w).grown h2 hB hown.lt)

theorem app_step {w : World} {ops : Array Oper} {o : Oper} {a : Act} {K : Act → World → Prop} {Q : Exit → Act → World → Prop} {E : Prop} (hgd : o.guard = none) (s x : Operand)
    (ho : o.op = .call { callee := .builtin .append, args := #[s, x], argTypes := #[30, 30] })
    (B : Nat) (l m : List UInt8) (v : Value) (hs : a.eval s = v) (hown : owns w B v l) (H : Nat) (n : Nat) (hn : m.length = n) (hx : a.eval x = .slice (some ⟨H, 0, none⟩) n n)
    (fr : Nat × Nat) (hblk : w.heap[H]? = some (.cells (m.map u8v).toArray 5 fr)) (hm : 0 < n) (hlen : l.length + n ≤ 100000000000) (hB : B ≤ w.heap.size)
    (h : ∀ v' w', owns w' B v' (l ++ m) → Below B w w' → K (a.put o.dst v') w') :
    if Region.wanted o (yielded ops a.tmps) = true then Oper.wp Try.prog o a w K Q else E := by
  obtain ⟨i0, hi, hz0, hz1, hz2⟩ := info_parts Try.info5
  subst hn
  refine step_append_lies _ hgd s x 30 ho B 5 i0 (.int .u8 0) 1 1 Try.underlying30 hi hz0 hz1 hz2 rfl (by omega) v l.length (l.map u8v) hs hown ⟨H, 0, none⟩ m.length m.length (m.map u8v) hx (by simp)
    (fun j u hu => World.news_of_block hblk j u (by simpa using hu)) (by intro u hu; simp at hu; obtain ⟨c, _, rfl⟩ := hu; rfl) hm (by unfold maxLen; omega) (by omega) hB w.heap.size rfl ?_
  intro g cap w' h1 h2 _ _
  exact h _ w' (by simpa [owns] using h1) ((Below.refl B w).grown h2 hB hown.lt)

theorem owns.conv {w : World} {B : Nat} {v : Value} {l : List UInt8} (h : owns w B v l) : (convert 30 9 v).run Try.prog w = .ok (.string ⟨l.toArray⟩) w := by
  have h' := h
  obtain ⟨_, ⟨rfl, hn⟩ | ⟨g, cap, cur, rfl, _⟩⟩ := h'
  · have : l = [] := List.eq_nil_of_length_eq_zero hn
    subst this
    rw [run_convert_bytes_string w 30 9 5 none 0 0 Try.underlying30 Try.underlying5 Try.underlying9]
    rfl
  · refine run_convert_bytes_back w 30 9 5 ⟨g, 0, none⟩ cap l Try.underlying30 Try.underlying5 Try.underlying9 fun j hj => ?_
    exact World.ownsRow.cells h (g := g) rfl j _ (by simp [u8v, hj])

theorem ret_str {a b : List UInt8} (h : a = b) : Ending.returned (.string ⟨a.toArray⟩) = .returned (.string ⟨b.toArray⟩) := by rw [h]
theorem up_hex (j n : Nat) (h : j < 16) (e : j = n) : ((⟨#[48, 49, 50, 51, 52, 53, 54, 55, 56, 57, 65, 66, 67, 68, 69, 70]⟩ : ByteArray)[j]'h) = hexD n := by
  subst e
  apply UInt8.toNat_inj.1
  rw [up_at j h, hexD_toNat j h]
theorem and15 (c : UInt8) : bits BinOp.and IntKind.u8 (c.toNat : Int) 15 = (c.toNat : Int) % 16 := by
  have hb := c.toNat_lt
  exact u8_and15 (x := (c.toNat : Int)) (by omega) (by omega)
theorem hexs_map (c : UInt8) (h1 h2) : #[Value.int .u8 37, Value.int .u8 (((⟨#[48, 49, 50, 51, 52, 53, 54, 55, 56, 57, 65, 66, 67, 68, 69, 70]⟩ : ByteArray)[((c.toNat : Int) / 16).toNat]'h1).toNat : Int),
    Value.int .u8 (((⟨#[48, 49, 50, 51, 52, 53, 54, 55, 56, 57, 65, 66, 67, 68, 69, 70]⟩ : ByteArray)[((c.toNat : Int) % 16).toNat]'h2).toNat : Int)] = ([37, hexD (c.toNat / 16), hexD (c.toNat % 16)].map u8v).toArray := by
  rw [up_hex _ (c.toNat / 16) h1 (by omega), up_hex _ (c.toNat % 16) h2 (by omega)]
  rfl

set_option maxHeartbeats 400000 in
theorem encode_any (s : ByteArray) (p : Bool) (w : World) (hs : s.size ≤ 1000000000) :
    Calls Try.prog 10 #[.string s, .bool p] w fun e w' => e = .returned (.string ⟨(enc p s.data.toList).toArray⟩) ∧ Below w.heap.size w w' := by
  obtain ⟨i0, hi, hz0, hz1, hz2⟩ := info_parts Try.info5
  go_enter Try.func10, Try.ntmps10
  go_wp2_with (at_make; refine wpList_make_own _ rfl _ _ 30 rfl w.heap.size 5 i0 (.int .u8 0) 1 Try.underlying30 hi hz0 hz1 .i64 .i64 _ s.size rfl rfl rfl (by rw [hz2]; omega) (by unfold maxLen; omega) (Nat.le_refl _) ?_; intro w1 hown1 hg1)
  go_loopw [5, 13] (fun v i wr => ∃ k : Nat, k ≤ s.size ∧ i = .int .i64 k ∧ owns wr w.heap.size v (enc p (s.data.toList.take k)) ∧ Below w.heap.size w wr) (fun _ i _ => s.size - (intOf i).toNat)
  case atStart => exact ⟨0, Nat.zero_le _, rfl, by simpa [owns, enc] using hown1, (Below.refl _ _).grown hg1 (Nat.le_refl _) (by simp)⟩
  case round =>
    obtain ⟨k, hk, rfl, hown, hbel⟩ := hrel
    clear hown1 hg1 hi hz0 hz1 hz2 i0
    have hsz := hbel.size
    have hel := enc_len p (s.data.toList.take k)
    have hel2 : (s.data.toList.take k).length ≤ k := List.length_take_le _ _
    have hel3 : (enc p (s.data.toList.take k)).length ≤ 3 * k := by omega
    clear hel hel2
    by_cases hlt : k < s.size
    · have HS : Hid (enc p (s.data.toList.take (k + 1)) = enc p (s.data.toList.take k) ++ enc1 p s[k]) := by rw [take_snoc s k hlt]; exact enc_snoc _ _ _
      cases hpl : plainB (s[k].toNat : Int) p
      · go_wp2_with (go_at_call 15; refine (isPlain_any _ _ _).mono ?_; rintro e w' ⟨rfl, rfl⟩)
        generalize hcg : s[k] = c at *
        have HC : Hid (s[k] = c) := hcg
        clear hcg
        have hb := c.toNat_lt
        have q1 : (0 : Int) ≤ (c.toNat : Int) / 16 := by omega
        have q2 : (c.toNat : Int) / 16 < 16 := by omega
        have q3 : (0 : Int) ≤ (c.toNat : Int) % 16 := by omega
        have q4 : (c.toNat : Int) % 16 < 16 := by omega
        have q5 := and15 c
        go_region_law ((refine app_step rfl _ _ rfl w.heap.size _ [37, hexD (c.toNat / 16), hexD (c.toNat % 16)] _ rfl (hown.alloc _) _ 3 rfl rfl _ ((heap_alloc_new _ _).trans (by rw [hexs_map])) (by omega) (by omega) (by simp; omega) ?_; intro v' w2 hown2 hb2))
        all_goals
          go_wp2
          go_roundw
          case rel => exact ⟨k + 1, by omega, by go_num, by rw [HS.out]; simpa [enc1, hpl] using hown2, (hbel.alloc (by omega) _).drew.trans hb2⟩
          case measure => simp [intOf]; omega
      · go_wp2_with (first | (go_at_call 15; refine (isPlain_any _ _ _).mono ?_; rintro e w' ⟨rfl, rfl⟩) | (at_builtin; refine app_law rfl _ _ rfl w.heap.size _ [s[k]] _ rfl (hown.alloc _) _ 1 rfl rfl _ (heap_alloc_new _ _) (by omega) (by omega) (by simp; omega) ?_; intro v' w2 hown2 hb2))
        go_roundw
        case rel => exact ⟨k + 1, by omega, by go_num, by rw [HS.out]; simpa [enc1, hpl] using hown2, (hbel.alloc (by omega) _).trans hb2⟩
        case measure => simp [intOf]; omega
    · have hcv := hown.conv
      have HE : Hid (enc p (s.data.toList.take k) = enc p s.data.toList) := by show _ = _; rw [List.take_of_length_le (by simp; omega)]
      go_wp2
      go_ret
      exact ⟨ret_str HE.out, hbel⟩
end Go.Proofs.Ytaeabbmekmjcaaa.C
