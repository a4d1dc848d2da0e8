/-
  THE PROGRAM's Digits.
-/
import Derived.Test.YtinnliapfdpfpaaGreatDoorMState
import Derived.Test.YtinnliapfdpfpaaGreatDoorHTag
import Derived.Laws.BitsLemmas
namespace Go.Proofs.YtinnliapfdpfpaaGreatDoor
open Go.RowKit
theorem Tryz.infoByte : (Tryz.prog.info? 5).map (fun i => (i.zero, i.size, i.bytes)) = some (some (.int .u8 0), 1, 1) := by kernel_rfl
def u8v (c : UInt8) : Value := .int .u8 (c.toNat : Int)
def owns (w : World) (B : Nat) (v : Value) (l : List UInt8) : Prop := w.ownsRow B 5 1 v l.length (l.map u8v)
theorem owns.lt {w : World} {B : Nat} {v : Value} {l : List UInt8} (h : owns w B v l) : ∀ k, v.ownBlock = some k → B ≤ k := fun k hk => (World.ownsRow.lt h k hk).1
theorem owns.alloc {w : World} {B : Nat} {v : Value} {l : List UInt8} (h : owns w B v l) (o : Obj) : owns (w.alloc o) B v l := World.ownsRow.alloc h o
theorem owns.drew {w : World} {B : Nat} {v : Value} {l : List UInt8} (h : owns w B v l) : owns w.drew B v l := h
theorem app_step {w : World} {ops : Array Oper} {o : Oper} {a : Act} {K : Act → World → Prop} {Q : Exit → Act → World → Prop} {E : Prop} (hgd : o.guard = none) (s x : Operand)
    (ho : o.op = .call { callee := .builtin .append, args := #[s, x], argTypes := #[89, 89] })
    (B : Nat) (l m : List UInt8) (v : Value) (hs : a.eval s = v) (hown : owns w B v l) (H : Nat) (n : Nat) (hn : m.length = n) (hx : a.eval x = .slice (some ⟨H, 0, none⟩) n n)
    (fr : Nat × Nat) (hblk : w.heap[H]? = some (.cells (m.map u8v).toArray 5 fr)) (hm : 0 < n) (hlen : l.length + n ≤ 100000000000) (hB : B ≤ w.heap.size)
    (h : ∀ v' w', owns w' B v' (l ++ m) → Below B w w' → K (a.put o.dst v') w') :
    if Region.wanted o (yielded ops a.tmps) = true then Oper.wp Tryz.prog o a w K Q else E := by
  obtain ⟨i0, hi, hz0, hz1, hz2⟩ := info_parts Tryz.infoByte
  subst hn
  refine step_append_lies _ hgd s x 89 ho B 5 i0 (.int .u8 0) 1 1 Tryz.underlying89 hi hz0 hz1 hz2 rfl (by omega) v l.length (l.map u8v) hs hown ⟨H, 0, none⟩ m.length m.length (m.map u8v) hx (by simp)
    (fun j u hu => World.news_of_block hblk j u (by simpa using hu)) (by intro u hu; simp at hu; obtain ⟨c, _, rfl⟩ := hu; rfl) hm (by unfold maxLen; omega) (by omega) hB w.heap.size rfl ?_
  intro g cap w' h1 h2 _ _
  exact h _ w' (by simpa [owns] using h1) ((Below.refl B w).grown h2 hB hown.lt)
theorem owns.conv {w : World} {B : Nat} {v : Value} {l : List UInt8} (h : owns w B v l) : (convert 89 9 v).run Tryz.prog w = .ok (.string ⟨l.toArray⟩) w := by
  have h' := h
  obtain ⟨_, ⟨rfl, hn⟩ | ⟨g, cap, cur, rfl, _⟩⟩ := h'
  · have : l = [] := List.eq_nil_of_length_eq_zero hn
    subst this
    rw [run_convert_bytes_string w 89 9 5 none 0 0 Tryz.underlying89 Tryz.underlying5 Tryz.underlying9]
    rfl
  · refine run_convert_bytes_back w 89 9 5 ⟨g, 0, none⟩ cap l Tryz.underlying89 Tryz.underlying5 Tryz.underlying9 fun j hj => ?_
    exact World.ownsRow.cells h (g := g) rfl j _ (by simp [u8v, hj])
theorem run_index_byte (d : List UInt8) (hd : d.length = 32) (k : Nat) (hk : k < d.length) (w : World) :
    (Instr.index 119 (.agg (d.map u8v).toArray) (.int .i64 (k : Int))).run Tryz.prog w = .ok (.int .u8 (d[k].toNat : Int)) w := by
  have h0 : (0 : Int) ≤ (k : Int) ∧ (k : Int) < 32 := by omega
  have hu := Tryz.underlying119
  obtain ⟨i0, hi, hz0, hz1, hz2⟩ := info_parts Tryz.infoByte
  simp [Instr.index, run_underlying hu, asIntOf, h0, part, sizeOf, typeInfo, hi, hz1, isAgg, run_underlying Tryz.underlying5, go_sem, hk, u8v]
  intro hh; omega
theorem low_fin : ∀ n : Fin 16, (lowB[n.val]'n.isLt) = lowF n.val := by decide +kernel
theorem low_hex (j n : Nat) (h : j < 16) (e : j = n) : ((⟨#[48, 49, 50, 51, 52, 53, 54, 55, 56, 57, 97, 98, 99, 100, 101, 102]⟩ : ByteArray)[j]'h) = lowF n := by
  subst e; exact low_fin ⟨j, h⟩
theorem low_map (c : UInt8) (h1 h2) : #[Value.int .u8 (((⟨#[48, 49, 50, 51, 52, 53, 54, 55, 56, 57, 97, 98, 99, 100, 101, 102]⟩ : ByteArray)[((c.toNat : Int) / 16).toNat]'h1).toNat : Int),
    Value.int .u8 (((⟨#[48, 49, 50, 51, 52, 53, 54, 55, 56, 57, 97, 98, 99, 100, 101, 102]⟩ : ByteArray)[((c.toNat : Int) % 16).toNat]'h2).toNat : Int)] = ([lowF (c.toNat / 16), lowF (c.toNat % 16)].map u8v).toArray := by
  rw [low_hex _ (c.toNat / 16) h1 (by omega), low_hex _ (c.toNat % 16) h2 (by omega)]
  rfl
theorem box_range (d : List UInt8) (t : TypeId) (w w1 : World) (hg : (w.alloc (.cells (d.map u8v).toArray t)).grownBy w1 none) : w1.rangeAt w.heap.size 0 (d.map u8v) := by
  intro j v hv
  have hb := hg.block w.heap.size (by simp) (by simp)
  rw [World.cell?_of_block (w := w.alloc (.cells (d.map u8v).toArray t)) (a := ⟨w.heap.size, 0 + j, none⟩) hb, World.cell?_alloc_at (hn := rfl), Nat.zero_add]
  simpa using hv
set_option maxRecDepth 100000 in
set_option maxHeartbeats 1000000 in
theorem digits_any (d : List UInt8) (hd : d.length = 32) (w : World) :
    Calls Tryz.prog 62 #[.agg (d.map u8v).toArray] w fun e w' => e = .returned (.string ⟨(hexL lowF d).toArray⟩) ∧ Below w.heap.size w w' := by
  obtain ⟨i0, hi, hz0, hz1, hz2⟩ := info_parts Tryz.infoByte
  go_enter Tryz.func62, Tryz.ntmps62
  have hlen : (d.map u8v).length = 32 := by simp [hd]
  have HLL : Hid ((d.map u8v).length = 32) := hlen
  clear hlen
  go_wp2_with (first | (at_make; refine wpList_make_own _ rfl _ _ 89 rfl w.heap.size 5 i0 (.int .u8 0) 1 Tryz.underlying89 hi hz0 hz1 .i64 .i64 _ 64 rfl rfl rfl (by rw [hz2]; omega) (by unfold maxLen; omega) (by simp) ?_; intro w1 hown1 hg1; have hr := box_range d 119 w w1 hg1) | (refine wpList_load_mid rfl 119 _ rfl w.heap.size 0 rfl (d.map u8v) _ hr Tryz.underlying119 rfl (by rw [HLL.out]; kernel_rfl) ?_))
  clear hi hz0 hz1 hz2 i0
  have hb1 : Below w.heap.size w w1 := ((Below.refl _ _).alloc (Nat.le_refl _) _).grown hg1 (by simp) (by simp)
  go_loopw [3, 8] (fun v i wr => ∃ k : Nat, k ≤ 32 ∧ i = .int .i64 k ∧ owns wr w.heap.size v (hexL lowF (d.take k)) ∧ Below w.heap.size w wr) (fun _ i _ => 32 - (intOf i).toNat)
  case atStart => exact ⟨0, by omega, rfl, by simpa [owns, hexL] using hown1, hb1⟩
  case round =>
    clear hown1 hg1 hr hb1
    obtain ⟨k, hk, rfl, hown, hbel⟩ := hrel
    have hhl := hexL_len lowF (d.take k)
    have htl : (d.take k).length ≤ k := List.length_take_le _ _
    by_cases hlt : k < 32
    · have hkd : k < d.length := by omega
      have k0 : (0 : Int) ≤ (k : Int) := by omega
      have k1 : (k : Int) < 32 := by omega
      have hix := fun w => run_index_byte d hd k hkd w
      go_wp2_with fail
      have HS : Hid (hexL lowF (d.take (k + 1)) = hexL lowF (d.take k) ++ [lowF (d[k].toNat / 16), lowF (d[k].toNat % 16)]) := by
        show _ = _; rw [List.take_succ_eq_append_getElem hkd, hexL_snoc]
      generalize d[k] = c at *
      clear hix
      have hb := c.toNat_lt
      have q1 : (0 : Int) ≤ (c.toNat : Int) / 16 := by omega
      have q2 : (c.toNat : Int) / 16 < 16 := by omega
      have q3 : (0 : Int) ≤ (c.toNat : Int) % 16 := by omega
      have q4 : (c.toNat : Int) % 16 < 16 := by omega
      have q5 : bits BinOp.and IntKind.u8 (c.toNat : Int) 15 = (c.toNat : Int) % 16 := u8_and15 (x := (c.toNat : Int)) (by omega) (by omega)
      have hsz := hbel.size
      go_region_law ((refine app_step rfl _ _ rfl w.heap.size _ [lowF (c.toNat / 16), lowF (c.toNat % 16)] _ rfl (hown.drew.alloc _) _ 2 rfl rfl _ ((heap_alloc_new _ _).trans (by rw [low_map])) (by omega) (by omega) (by simp; omega) ?_; intro v' w2 hown2 hb2))
      all_goals
        go_wp2
        go_roundw
        case rel => exact ⟨k + 1, by omega, by go_num, by rw [HS.out]; exact hown2, (hbel.drew.alloc (by simpa using hsz) _).trans hb2⟩
        case measure => simp [intOf]; omega
    · have hcv := hown.conv
      have HE : Hid (hexL lowF (d.take k) = hexL lowF d) := by show _ = _; rw [List.take_of_length_le (by omega)]
      have hdk : decide ((k : Int) < 32) = false := by simp; omega
      go_wp2_with fail
      go_ret
      exact ⟨ret_str HE.out, hbel⟩
end Go.Proofs.YtinnliapfdpfpaaGreatDoor
