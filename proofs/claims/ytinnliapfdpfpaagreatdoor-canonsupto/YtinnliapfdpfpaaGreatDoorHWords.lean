/-
  THE WORDS OF A BLOCK: the plain list, and the document's 'words'.
  THE CONSTANTS, AND A TEXT FILLED UP.
-/
import Derived.Test.YtinnliapfdpfpaaGreatDoorHBase
import Derived.Deep.AppendLies
import Derived.Deep.RegionLaw
namespace Go.Proofs.YtinnliapfdpfpaaGreatDoor
open Go.RowKit
def byteAt (l : List UInt8) (i : Nat) : Nat := (l.getD i 0).toNat
/-- The number of the k bytes from p on. -/
def wpart (l : List UInt8) (p : Nat) : Nat → Nat
  | 0 => 0
  | k + 1 => 256 * wpart l p k + byteAt l (p + k)
theorem byteAt_lt (l : List UInt8) (i : Nat) : byteAt l i < 256 := (l.getD i 0).toNat_lt
theorem wpart_lt (l : List UInt8) (p : Nat) : ∀ k, wpart l p k < 256 ^ k := by
  intro k
  induction k with
  | zero => simp [wpart]
  | succ k ih => have := byteAt_lt l (p + k); simp only [wpart, Nat.pow_succ]; omega
def firsts (l : List UInt8) (p : Nat) : Nat → List Nat
  | 0 => []
  | k + 1 => firsts l p k ++ [wpart l (p + 4 * k) 4]
theorem firsts_len (l : List UInt8) (p k : Nat) : (firsts l p k).length = k := by induction k with | zero => rfl | succ k ih => simp [firsts, ih]
/-- All are numbers of 32 bits. -/
def small (l : List Nat) : Prop := ∀ i, l.getD i 0 < 4294967296
theorem small_nil : small [] := by intro i; simp
theorem small_snoc {l : List Nat} {x : Nat} (h : small l) (hx : x < 4294967296) : small (l ++ [x]) := by
  intro i
  have hi := h i
  simp only [List.getD_eq_getElem?_getD, List.getElem?_append] at *
  split
  · exact hi
  · by_cases e : i - l.length = 0
    · simp [e, hx]
    · simp [e]
theorem firsts_small (l : List UInt8) (p k : Nat) : small (firsts l p k) := by
  induction k with
  | zero => exact small_nil
  | succ k ih => exact small_snoc ih (Nat.lt_of_lt_of_le (wpart_lt l _ 4) (by omega))
/-- The next word. -/
def nxt (w : List Nat) : Nat := (w.getD (w.length - 16) 0 + ss0 (w.getD (w.length - 15) 0) + w.getD (w.length - 7) 0 + ss1 (w.getD (w.length - 2) 0)) % 4294967296
def sch (m : List Nat) : Nat → List Nat
  | 0 => m
  | k + 1 => sch m k ++ [nxt (sch m k)]
theorem sch_len (m : List Nat) (k : Nat) : (sch m k).length = m.length + k := by induction k with | zero => rfl | succ k ih => simp [sch, ih]; omega
theorem sch_small {m : List Nat} (h : small m) (k : Nat) : small (sch m k) := by
  induction k with
  | zero => exact h
  | succ k ih => exact small_snoc ih (Nat.mod_lt _ (by omega))

theorem Tryz.infoInt : (Tryz.prog.info? 3).map (fun i => (i.zero, i.size, i.bytes)) = some (some (.int .i64 0), 1, 8) := by kernel_rfl
def ownI (w : World) (B : Nat) (v : Value) (l : List Nat) : Prop := w.ownsRow B 3 1 v l.length (l.map iv)
theorem ownI.lt {w : World} {B : Nat} {v : Value} {l : List Nat} (h : ownI w B v l) : ∀ k, v.ownBlock = some k → B ≤ k := fun k hk => (World.ownsRow.lt h k hk).1
theorem ownI.alloc {w : World} {B : Nat} {v : Value} {l : List Nat} (h : ownI w B v l) (o : Obj) : ownI (w.alloc o) B v l := World.ownsRow.alloc h o
theorem ownI.drewN {w : World} {B : Nat} {v : Value} {l : List Nat} (h : ownI w B v l) (n : Nat) : ownI (w.drewN n) B v l := h
theorem ownI.drew {w : World} {B : Nat} {v : Value} {l : List Nat} (h : ownI w B v l) : ownI w.drew B v l := h
theorem ownI.form {w : World} {B : Nat} {v : Value} {l : List Nat} (h : ownI w B v l) (hl : 0 < l.length) : ∃ g cap, v = .slice (some ⟨g, 0, none⟩) l.length cap ∧ B ≤ g ∧ g < w.heap.size := by
  have h' := h
  obtain ⟨_, ⟨rfl, hn⟩ | ⟨g, cap, cur, rfl, hb, hh, _⟩⟩ := h'
  · omega
  · exact ⟨g, cap, rfl, hb, (World.ownsRow.lt h g rfl).2⟩
theorem ownI.cell {w : World} {B g n cap : Nat} {l : List Nat} (h : ownI w B (.slice (some ⟨g, 0, none⟩) n cap) l) (j : Nat) (hj : j < l.length) : w.cell? ⟨g, j, none⟩ = some (.int .i64 (l.getD j 0 : Nat)) := by
  have := World.ownsRow.cells h (g := g) rfl j (iv l[j]) (by simp [hj])
  rw [List.getD_eq_getElem?_getD, List.getElem?_eq_getElem hj]
  have e : (⟨g, 0, none⟩ : Addr).add j = ⟨g, j, none⟩ := by unfold Addr.add; split <;> simp_all
  rw [e] at this
  simpa [iv] using this

theorem app_int {w : World} {ops : Array Oper} {rest : List Oper} {o : Oper} {a : Act} {Q : Exit → Act → World → Prop} (hgd : o.guard = none) (s x : Operand)
    (ho : o.op = .call { callee := .builtin .append, args := #[s, x], argTypes := #[228, 228] })
    (B : Nat) (l m : List Nat) (v : Value) (hs : a.eval s = v) (hown : ownI w B v l) (H : Nat) (n : Nat) (hn : m.length = n) (hx : a.eval x = .slice (some ⟨H, 0, none⟩) n n)
    (fr : Nat × Nat) (hblk : w.heap[H]? = some (.cells (m.map iv).toArray 3 fr)) (hm : 0 < n) (hlen : l.length + n ≤ 100000000000) (hB : B ≤ w.heap.size)
    (h : ∀ v' w', ownI w' B v' (l ++ m) → Below B w w' → wpList Tryz.prog ops Q rest (a.put o.dst v') w') : wpList Tryz.prog ops Q (o :: rest) a w := by
  obtain ⟨i0, hi, hz0, hz1, hz2⟩ := info_parts Tryz.infoInt
  subst hn
  refine wpList_append_lies _ hgd s x 228 ho B 3 i0 (.int .i64 0) 1 8 Tryz.underlying228 hi hz0 hz1 hz2 rfl (by omega) v l.length (l.map iv) hs hown ⟨H, 0, none⟩ m.length m.length (m.map iv) hx (by simp)
    (fun j u hu => World.news_of_block hblk j u (by simpa using hu)) (by intro u hu; simp at hu; obtain ⟨c, _, rfl⟩ := hu; rfl) hm (by unfold maxLen; omega) (by omega) hB w.heap.size rfl ?_
  intro g cap w' h1 h2 _ _
  exact h _ w' (by simpa [ownI] using h1) ((Below.refl B w).grown h2 hB hown.lt)
theorem app_int_step {w : World} {ops : Array Oper} {o : Oper} {a : Act} {K : Act → World → Prop} {Q : Exit → Act → World → Prop} {E : Prop} (hgd : o.guard = none) (s x : Operand)
    (ho : o.op = .call { callee := .builtin .append, args := #[s, x], argTypes := #[228, 228] })
    (B : Nat) (l m : List Nat) (v : Value) (hs : a.eval s = v) (hown : ownI w B v l) (H : Nat) (n : Nat) (hn : m.length = n) (hx : a.eval x = .slice (some ⟨H, 0, none⟩) n n)
    (fr : Nat × Nat) (hblk : w.heap[H]? = some (.cells (m.map iv).toArray 3 fr)) (hm : 0 < n) (hlen : l.length + n ≤ 100000000000) (hB : B ≤ w.heap.size)
    (h : ∀ v' w', ownI w' B v' (l ++ m) → Below B w w' → K (a.put o.dst v') w') :
    if Region.wanted o (yielded ops a.tmps) = true then Oper.wp Tryz.prog o a w K Q else E := by
  obtain ⟨i0, hi, hz0, hz1, hz2⟩ := info_parts Tryz.infoInt
  subst hn
  refine step_append_lies _ hgd s x 228 ho B 3 i0 (.int .i64 0) 1 8 Tryz.underlying228 hi hz0 hz1 hz2 rfl (by omega) v l.length (l.map iv) hs hown ⟨H, 0, none⟩ m.length m.length (m.map iv) hx (by simp)
    (fun j u hu => World.news_of_block hblk j u (by simpa using hu)) (by intro u hu; simp at hu; obtain ⟨c, _, rfl⟩ := hu; rfl) hm (by unfold maxLen; omega) (by omega) hB w.heap.size rfl ?_
  intro g cap w' h1 h2 _ _
  exact h _ w' (by simpa [ownI] using h1) ((Below.refl B w).grown h2 hB hown.lt)
theorem below_drewN {B : Nat} {a w : World} (h : Below B a w) (n : Nat) : Below B a (w.drewN n) := h.trans ⟨rfl, rfl, rfl, Nat.le_refl _, fun _ _ => rfl⟩
theorem byteAt_get (s : ByteArray) (i : Nat) (h : i < s.size) : byteAt s.data.toList i = s[i].toNat := by
  have h' : i < s.data.toList.length := by simpa using h
  unfold byteAt; rw [List.getD_eq_getElem?_getD, List.getElem?_eq_getElem h']; rfl

set_option maxHeartbeats 1000000 in
theorem words_any (s : ByteArray) (p : Nat) (hp : p + 64 ≤ s.size) (hs : s.size ≤ 1000000000000000) (w : World) :
    Calls Tryz.prog 156 #[.string s, .int .i64 p] w fun e w' =>
      ∃ v, e = .returned v ∧ ownI w' w.heap.size v (sch (firsts s.data.toList p 16) 48) ∧ Below w.heap.size w w' := by
  go_enter Tryz.func156, Tryz.ntmps156
  go_wp2
  go_loopw [5, 6] (fun v i wr => ∃ k : Nat, k ≤ 16 ∧ i = .int .i64 k ∧ ownI wr w.heap.size v (firsts s.data.toList p k) ∧ Below w.heap.size w wr) (fun _ i _ => 16 - (intOf i).toNat)
  case atStart => exact ⟨0, Nat.zero_le _, rfl, by simpa [ownI, firsts] using World.ownsRow_nil w w.heap.size 3 1, Below.refl _ _⟩
  case round =>
    obtain ⟨k, hk, rfl, hown, hbel⟩ := hrel
    have hsz := hbel.size
    have hfl := firsts_len s.data.toList p k
    by_cases hlt : k < 16
    · have hdk : decide ((k : Int) < 16) = true := by simp; omega
      go_wp2
      go_loop [7, 8] (fun x i => ∃ j : Nat, j ≤ 4 ∧ i = .int .i64 j ∧ x = .int .i64 (wpart s.data.toList (p + 4 * k) j : Nat)) (fun _ i => 4 - (intOf i).toNat)
      case atStart => exact ⟨0, Nat.zero_le _, rfl, rfl⟩
      case round =>
        obtain ⟨j, hj, rfl, rfl⟩ := hrel
        have hwl := wpart_lt s.data.toList (p + 4 * k) j
        have hp4 : 256 ^ j ≤ 4294967296 := Nat.pow_le_pow_right (n := 256) (by omega) (j := 4) hj
        by_cases hjl : j < 4
        · have hb := byteAt_get s (p + 4 * k + j) (by omega)
          have HW : Hid (wpart s.data.toList (p + 4 * k) (j + 1) = 256 * wpart s.data.toList (p + 4 * k) j + s[p + 4 * k + j].toNat) := by show _ = _; rw [← hb]; rfl
          have hq : s[p + 4 * k + j].toNat < 256 := s[p + 4 * k + j].toNat_lt
          have hwl2 : wpart s.data.toList (p + 4 * k) j < 4294967296 := by omega
          generalize wpart s.data.toList (p + 4 * k) j = x at *
          clear hb hwl hp4
          go_wp2
          go_round
          case rel => exact ⟨j + 1, by omega, by go_num, by rw [HW.out]; simp⟩
          case measure => simp [intOf]; omega
        · obtain rfl : j = 4 := by omega
          have HF : Hid (firsts s.data.toList p (k + 1) = firsts s.data.toList p k ++ [wpart s.data.toList (p + 4 * k) 4]) := rfl
          generalize wpart s.data.toList (p + 4 * k) 4 = x at *
          clear hwl hp4 hdk
          go_wp2_with (at_builtin; refine app_int rfl _ _ rfl w.heap.size _ [x] _ rfl (hown.alloc _) _ 1 rfl rfl _ (heap_alloc_new _ _) (by omega) (by omega) (by simp; omega) ?_; intro v' w2 hown2 hb2)
          go_roundw
          case rel => exact ⟨k + 1, by omega, by go_num, by rw [HF.out]; exact hown2, (hbel.alloc (by omega) _).trans hb2⟩
          case measure => simp [intOf]; omega
    · have hk16 : k = 16 := by omega
      rw [hk16] at hown
      clear hfl hk16
      have hfs := firsts_small s.data.toList p 16
      have hfl := firsts_len s.data.toList p 16
      generalize hm0 : firsts s.data.toList p 16 = m at *
      have HM0 : Hid (firsts s.data.toList p 16 = m) := hm0
      clear hm0
      go_wp2
      go_loopw [5, 9] (fun v i wr => ∃ k : Nat, k ≤ 48 ∧ i = .int .i64 ((k : Int) + 16) ∧ ownI wr w.heap.size v (sch m k) ∧ Below w.heap.size w wr) (fun _ i _ => 64 - (intOf i).toNat)
      case atStart => exact ⟨0, Nat.zero_le _, rfl, hown, hbel⟩
      case round =>
        clear hown hbel hsz
        obtain ⟨k, hk, rfl, hown, hbel⟩ := hrel
        have hsz := hbel.size
        have hql := sch_len m k
        have hqs := sch_small hfs k
        have HQ : Hid (sch m (k + 1) = sch m k ++ [nxt (sch m k)]) := rfl
        generalize hq0 : sch m k = q at *
        have HQ0 : Hid (sch m k = q) := hq0
        clear hq0
        have HN : Hid (nxt q = (q.getD k 0 + ss0 (q.getD (k + 1) 0) + q.getD (k + 9) 0 + ss1 (q.getD (k + 14) 0)) % 4294967296) := by
          show _ = _
          unfold nxt; rw [hql, hfl, show 16 + k - 16 = k from by omega, show 16 + k - 15 = k + 1 from by omega, show 16 + k - 7 = k + 9 from by omega, show 16 + k - 2 = k + 14 from by omega]
        obtain ⟨g, cap, rfl, hg1, hg2⟩ := hown.form (by omega)
        rw [hfl] at hql
        have x0 := hqs k
        have x1 := hqs (k + 1)
        have x9 := hqs (k + 9)
        have x14 := hqs (k + 14)
        by_cases hlt : k < 48
        · have k0 := hown.cell k (by omega)
          have k1 := hown.cell (k + 1) (by omega)
          have k9 := hown.cell (k + 9) (by omega)
          have k14 := hown.cell (k + 14) (by omega)
          generalize q.getD k 0 = y0 at *
          generalize q.getD (k + 1) 0 = y1 at *
          generalize q.getD (k + 9) 0 = y9 at *
          generalize q.getD (k + 14) 0 = y14 at *
          have r7 := rotr_lt y1 7 x1 (by omega)
          have r18 := rotr_lt y1 18 x1 (by omega)
          have r17 := rotr_lt y14 17 x14 (by omega)
          have r19 := rotr_lt y14 19 x14 (by omega)
          have e8 : ((y1 : Int) / 8) = ((y1 / 8 : Nat) : Int) := by simp
          have e1024 : ((y14 : Int) / 1024) = ((y14 / 1024 : Nat) : Int) := by simp
          have E8 : Hid (((y1 : Int) / 8) = ((y1 / 8 : Nat) : Int)) := e8
          have E1024 : Hid (((y14 : Int) / 1024) = ((y14 / 1024 : Nat) : Int)) := e1024
          clear e8 e1024
          go_wp2_with fail
          refine (turn_any y1 7 x1 (by omega) _).mono ?_
          rintro e' w' ⟨rfl, rfl⟩
          go_wp2_with fail
          refine (turn_any y1 18 x1 (by omega) _).mono ?_
          rintro e' w' ⟨rfl, rfl⟩
          go_wp2_with fail
          refine (rxor_any _ _ r7 r18 _).mono ?_
          rintro e' w' ⟨rfl, rfl⟩
          go_wp2_with fail
          rw [E8.out]
          refine (rxor_any _ (y1 / 8) (xor32 r7 r18) (by omega) _).mono ?_
          rintro e' w' ⟨rfl, rfl⟩
          rw [show rotr y1 7 ^^^ rotr y1 18 ^^^ y1 / 8 = ss0 y1 from rfl]
          have s0 := ss0_lt y1 x1
          generalize ss0 y1 = z0 at *
          go_wp2_with fail
          refine (turn_any y14 17 x14 (by omega) _).mono ?_
          rintro e' w' ⟨rfl, rfl⟩
          go_wp2_with fail
          refine (turn_any y14 19 x14 (by omega) _).mono ?_
          rintro e' w' ⟨rfl, rfl⟩
          go_wp2_with fail
          refine (rxor_any _ _ r17 r19 _).mono ?_
          rintro e' w' ⟨rfl, rfl⟩
          go_wp2_with fail
          rw [E1024.out]
          refine (rxor_any _ (y14 / 1024) (xor32 r17 r19) (by omega) _).mono ?_
          rintro e' w' ⟨rfl, rfl⟩
          rw [show rotr y14 17 ^^^ rotr y14 19 ^^^ y14 / 1024 = ss1 y14 from rfl]
          have s1 := ss1_lt y14 x14
          generalize ss1 y14 = z1 at *
          obtain ⟨w4, hw4⟩ : ∃ w4, w4 = wr.drew.drew.drew.drew := ⟨_, rfl⟩
          rw [← hw4]
          have f0 : w4.cell? ⟨g, k, none⟩ = some (.int .i64 y0) := by rw [hw4]; exact k0
          have f9 : w4.cell? ⟨g, k + 9, none⟩ = some (.int .i64 y9) := by rw [hw4]; exact k9
          have hown4 : ownI w4 w.heap.size (.slice (some ⟨g, 0, none⟩) (16 + k) cap) q := by rw [hw4, ← hql]; exact hown
          have hbel4 : Below w.heap.size w w4 := by rw [hw4]; exact hbel.drew.drew.drew.drew
          have hg4 : g < w4.heap.size := by rw [hw4]; exact hg2
          clear hw4 k0 k1 k9 k14 hown hbel hg2 hsz r7 r18 r17 r19 E8 E1024 x1 x14
          have hsz4 := hbel4.size
          have q0 : (0 : Int) ≤ (k : Int) := by omega
          have q1 : (k : Int) < 16 + (k : Int) := by omega
          have q2 : (k : Int) + 9 < 16 + (k : Int) := by omega
          have hq80 : q.length ≤ 80 := by omega
          have q3 : (0 : Int) ≤ (k : Int) + 9 := by omega
          have q4 : ((k : Int) + 9).toNat = k + 9 := by omega
          have i1 : IntKind.i64.wrap (k : Int) = (k : Int) := by rw [IntKind.wrap_i64]; omega
          have i2 : IntKind.i64.wrap ((k : Int) + 16 - 7) = (k : Int) + 9 := by rw [IntKind.wrap_i64]; omega
          have HQL : Hid (q.length = 16 + k) := hql
          clear hql
          have j1 : IntKind.i64.wrap ((y0 : Int) + (z0 : Int)) = (y0 : Int) + (z0 : Int) := by rw [IntKind.wrap_i64]; omega
          have j2 : IntKind.i64.wrap ((y0 : Int) + (z0 : Int) + (y9 : Int)) = (y0 : Int) + (z0 : Int) + (y9 : Int) := by rw [IntKind.wrap_i64]; omega
          have j3 : IntKind.i64.wrap ((y0 : Int) + (z0 : Int) + (y9 : Int) + (z1 : Int)) = (y0 : Int) + (z0 : Int) + (y9 : Int) + (z1 : Int) := by rw [IntKind.wrap_i64]; omega
          have HC : Hid (#[Value.int .i64 (((y0 : Int) + (z0 : Int) + (y9 : Int) + (z1 : Int)).tmod 4294967296)] = ([nxt q].map iv).toArray) := by
            show _ = _
            rw [← j3, HN.out, wrap_mod _ (y0 + z0 + y9 + z1) (by omega) (by omega)]; rfl
          go_wp2_with fail
          go_region_law ((refine app_int_step rfl _ _ rfl w.heap.size q [nxt q] _ rfl (hown4.drew.alloc _) _ 1 rfl rfl _ ((heap_alloc_new _ _).trans (by rw [HC.out])) (by omega) (by omega) (by simp; omega) ?_; intro v' w5 hown5 hb5))
          all_goals
            clear i1 i2 j1 j2 j3 HC q1 q2 q3 q4 f0 f9 hown4 HN
            go_wp2
            go_roundw
            case rel => exact ⟨k + 1, by omega, by go_num, by rw [HQ.out]; exact hown5, ((hbel4.drew).alloc (by simpa using hsz4) _).trans hb5⟩
            case measure => simp [intOf]; omega
        · have HE : Hid (sch (firsts s.data.toList p 16) 48 = q) := by show _ = _; rw [← HQ0.out, HM0.out, show k = 48 from by omega]
          have hown' : ownI wr w.heap.size (.slice (some ⟨g, 0, none⟩) (16 + k) cap) q := by rw [← hql]; exact hown
          clear x0 x1 x9 x14 HN HQ HQ0
          have hdk : decide ((k : Int) + 16 < 64) = false := by simp; omega
          go_wp2_with fail
          go_ret
          refine ⟨_, rfl, ?_, hbel⟩
          rw [HE.out]
          first | exact hown | exact hown'
end Go.Proofs.YtinnliapfdpfpaaGreatDoor
namespace Go.Proofs.YtinnliapfdpfpaaGreatDoor
open Go.RowKit
def kL : List Nat := [1116352408, 1899447441, 3049323471, 3921009573, 961987163, 1508970993, 2453635748, 2870763221, 3624381080, 310598401, 607225278, 1426881987, 1925078388, 2162078206, 2614888103, 3248222580, 3835390401, 4022224774, 264347078, 604807628, 770255983, 1249150122, 1555081692, 1996064986, 2554220882, 2821834349, 2952996808, 3210313671, 3336571891, 3584528711, 113926993, 338241895, 666307205, 773529912, 1294757372, 1396182291, 1695183700, 1986661051, 2177026350, 2456956037, 2730485921, 2820302411, 3259730800, 3345764771, 3516065817, 3600352804, 4094571909, 275423344, 430227734, 506948616, 659060556, 883997877, 958139571, 1322822218, 1537002063, 1747873779, 1955562222, 2024104815, 2227730452, 2361852424, 2428436474, 2756734187, 3204031479, 3329325298]
def hL : List Nat := [1779033703, 3144134277, 1013904242, 2773480762, 1359893119, 2600822924, 528734635, 1541459225]
theorem kL_small : small kL := by
  intro i
  by_cases h : i < 64
  · have : ∀ n : Fin 64, kL.getD n.val 0 < 4294967296 := by decide +kernel
    exact this ⟨i, h⟩
  · have e : kL.getD i 0 = 0 := by rw [List.getD_eq_getElem?_getD, List.getElem?_eq_none (by show 64 ≤ i; omega)]; rfl
    rw [e]; omega
set_option maxRecDepth 100000 in
set_option maxHeartbeats 400000 in
theorem consts_any (w : World) :
    Calls Tryz.prog 155 #[] w fun e w' => e = .returned (.slice (some ⟨w.heap.size, 0, none⟩) 64 64) ∧ w' = w.alloc (.cells (kL.map iv).toArray 3) := by
  go_enter Tryz.func155, Tryz.ntmps155
  go_wp2
  go_ret
  exact ⟨rfl, rfl⟩
/-- How many noughts. -/
def zs (n : Nat) : Nat := (119 - n % 64) % 64
def pad (l : List UInt8) : List UInt8 := l ++ [128] ++ List.replicate (zs l.length) 0 ++ bigL (8 * l.length) 8
theorem pad_len (l : List UInt8) : (pad l).length = l.length + 9 + zs l.length := by simp [pad, bigL_len]; omega
theorem zs_mod (n : Nat) : (n + 1 + zs n) % 64 = 56 := by unfold zs; omega
theorem zs_lt (n : Nat) : zs n < 64 := by unfold zs; omega
theorem zs_min (n j : Nat) (h : j < zs n) : ¬ (n + 1 + j) % 64 = 56 := by unfold zs at h; omega
theorem app_str (a b : List UInt8) : (⟨a.toArray⟩ : ByteArray) ++ ⟨b.toArray⟩ = ⟨(a ++ b).toArray⟩ := by apply ByteArray.ext; simp
def strLen (v : Value) : Nat := match v with | .string s => s.size | _ => 0
theorem strLen_of (l : List UInt8) : strLen (.string ⟨l.toArray⟩) = l.length := by simp [strLen, ByteArray.size]
set_option maxHeartbeats 400000 in
theorem filled_any (l : List UInt8) (hl : l.length ≤ 500000000000000) (w : World) :
    Calls Tryz.prog 154 #[.string ⟨l.toArray⟩] w fun e w' => e = .returned (.string ⟨(pad l).toArray⟩) ∧ Below w.heap.size w w' := by
  have a1 := app_str l [128]
  go_enter Tryz.func154, Tryz.ntmps154
  go_wp2
  go_loop [3] (fun v => ∃ j : Nat, j ≤ zs l.length ∧ v = .string ⟨(l ++ [128] ++ List.replicate j 0).toArray⟩) (fun v => l.length + 100 - strLen v)
  case atStart => exact ⟨0, Nat.zero_le _, by simp⟩
  case round =>
    obtain ⟨j, hj, rfl⟩ := hrel
    clear a1
    have hz := zs_lt l.length
    have hlen : (l ++ [128] ++ List.replicate j 0).length = l.length + 1 + j := by simp; omega
    have HM : Hid (strLen (.string ⟨(l ++ [128] ++ List.replicate j 0).toArray⟩) = l.length + 1 + j) := by show _ = _; rw [strLen_of, hlen]
    have a0 := app_str (l ++ [128] ++ List.replicate j 0) [0]
    have HR : Hid (l ++ [128] ++ List.replicate (j + 1) 0 = (l ++ [128] ++ List.replicate j 0) ++ [0]) := by show _ = _; rw [List.replicate_succ', List.append_assoc (l ++ [128])]
    have hb := bigL_len (8 * l.length) 8
    have HP : Hid (j = zs l.length → pad l = (l ++ [128] ++ List.replicate j 0) ++ bigL (8 * l.length) 8) := fun e => by rw [e]; rfl
    have hmin := zs_min l.length j
    have hmod := zs_mod l.length
    by_cases hlt : j < zs l.length
    · have hne := hmin hlt
      have t56 : ((((l.length + 1 + j : Nat) : Int) % 64) != 56) = true := by simp; omega
      generalize l ++ [128] ++ List.replicate j 0 = q at *
      go_wp2
      go_round
      case rel => exact ⟨j + 1, by omega, by rw [HR.out]⟩
      case measure => rw [HM.out, strLen_of]; simp; omega
    · have hpad := HP.out (by omega)
      have HP2 : Hid (pad l = (l ++ [128] ++ List.replicate j 0) ++ bigL (8 * l.length) 8) := hpad
      have t56 : ((((l.length + 1 + j : Nat) : Int) % 64) != 56) = false := by simp; omega
      clear hpad HP HR HM a0 hmin
      generalize l ++ [128] ++ List.replicate j 0 = q at *
      go_wp2_with fail
      rw [show (8 * (l.length : Int)) = ((8 * l.length : Nat) : Int) from by simp]
      refine (big_any (8 * l.length) 8 (by omega) (by omega) _).mono ?_
      rintro e w' ⟨rfl, hbel⟩
      generalize bigL (8 * l.length) 8 = r at *
      have a2 := app_str q r
      go_wp2
      go_ret
      exact ⟨ret_str HP2.out.symm, hbel⟩
end Go.Proofs.YtinnliapfdpfpaaGreatDoor
