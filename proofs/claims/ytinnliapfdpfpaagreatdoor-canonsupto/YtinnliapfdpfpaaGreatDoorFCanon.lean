/-
  CANONICAL FORMS, the program's: the form of a request for a list.
-/
import Derived.Test.YtinnliapfdpfpaaGreatDoorFQuery
import Derived.Test.YtinnliapfdpfpaaGreatDoorMHash
import Derived.Deep.RegionHeld3
namespace Go.Proofs.YtinnliapfdpfpaaGreatDoor.R
open Go.RowKit
open Go.Proofs.YtinnliapfdpfpaaGreatDoor.C (ret_bool ret_int enc enc_len)

theorem sappL_law {w : World} {ops : Array Oper} {rest : List Oper} {o : Oper} {a : Act} {Q : Exit → Act → World → Prop} (hgd : o.guard = none) (s x : Operand)
    (ho : o.op = .call { callee := .builtin .append, args := #[s, x], argTypes := #[69, 69] })
    (B : Nat) (l m : List Bs) (n : Nat) (hn : m.length = n) (h0 : 0 < n) (v : Value) (hs : a.eval s = v) (hown : srow w B v l) (H : Nat) (hx : a.eval x = .slice (some ⟨H, 0, none⟩) n n)
    (fr : Nat × Nat) (hblk : w.heap[H]? = some (.cells (m.map str).toArray 9 fr)) (hlen : l.length + n ≤ 1000000000) (hB : B ≤ w.heap.size)
    (h : ∀ v' w', srow w' B v' (l ++ m) → w.grownBy w' v.ownBlock → Below B w w' → wpList Tryz.prog ops Q rest (a.put o.dst v') w') : wpList Tryz.prog ops Q (o :: rest) a w := by
  obtain ⟨i0, hi, hz0, hz1, hz2⟩ := info_parts Tryz.infoS
  subst hn
  refine wpList_append_lies _ hgd s x 69 ho B 9 i0 (.string ⟨#[]⟩) 1 16 Tryz.underlying69 hi hz0 hz1 hz2 rfl (by omega) v l.length (l.map str) hs hown ⟨H, 0, none⟩ m.length m.length (m.map str) hx (by simp)
    (fun j u hu => World.news_of_block hblk j u (by simpa using hu)) (by intro u hu; rw [List.mem_map] at hu; obtain ⟨y, _, rfl⟩ := hu; rfl) h0 (by unfold maxLen; omega) (by omega) hB w.heap.size rfl ?_
  intro g cap w' h1 h2 _ _
  refine h _ w' ?_ h2 ((Below.refl B w).grown h2 hB hown.lt)
  unfold srow
  rw [List.length_append, List.map_append]
  exact h1
theorem heap_new_at {w : World} {A B : Array Value} {t : TypeId} {H : Nat} (e : H = w.heap.size) (h : A = B) : (w.alloc (.cells A t)).heap[H]? = some (.cells B t (0, 0)) := by subst e; subst h; exact heap_alloc_new _ _
theorem srow_three {w : World} {B : Nat} (a b c : Bs) (hB : B ≤ w.heap.size) : srow (w.alloc (.cells #[str a, str b, str c] 9)) B (.slice (some ⟨w.heap.size, 0, none⟩) 3 3) [a, b, c] :=
  ⟨rfl, .inr ⟨w.heap.size, 3, _, rfl, hB, heap_alloc_new _ _, Nat.le_refl _, by unfold maxLen; omega, rfl, rfl⟩⟩
theorem Env.call {w w' : World} (E : Env w) (k : Below w.heap.size w w') : Env w' := E.below k E.sz
theorem phold.up {w : World} {B B' : Nat} {v : Value} {l : Ps} (h : phold w B v l) (k : B ≤ B') : phold w B' v l := by
  rcases h with h | ⟨g, cap, rfl, hg, hc⟩
  · exact .inl h
  · exact .inr ⟨g, cap, rfl, by omega, hc⟩
theorem phold.call {w w' : World} {v : Value} {l : Ps} (h : phold w w.heap.size v l) (k : Below w.heap.size w w') : phold w' w'.heap.size v l := (h.below k).up k.size
/-- The hash that a form tells. -/
def hashT (y : Bs) : Bs := hexL lowF (digest y)
/-- The form of a request for a list. -/
def canonOf (m p : Bs) (q hs : Ps) (y list : Bs) : Option Bs := match pickFrom hs [] (namesOf list) with
  | none => none
  | some s => if misses hs s then none else some (canonText m p (canonQ q) s list (hashT y))
def cEnd : Option Bs → Ending
  | none => .returned (.tuple #[str [], .int .i64 2])
  | some t => .returned (.tuple #[str t, .int .i64 0])
theorem cEnd_no {o : Option Bs} (h : o = none) : Ending.returned (.tuple #[str [], .int .i64 2]) = cEnd o := by rw [h]; rfl
theorem cEnd_ok {o : Option Bs} {t : Bs} (h : o = some t) : Ending.returned (.tuple #[str t, .int .i64 0]) = cEnd o := by rw [h]; rfl
theorem names_len (l : Bs) : (namesOf l).length ≤ l.length + 1 := by
  unfold namesOf
  split
  · simp
  · exact split_len l [59] (by simp)
theorem pick_len {hs s : Ps} {list : Bs} (hl : list.length ≤ 2000000) (h : pickFrom hs [] (namesOf list) = some s) : s.length ≤ 2000001 := by
  have e := pick_names hs _ _ _ h
  have := congrArg List.length e
  rw [List.length_map] at this
  have := names_len list
  omega
theorem find_in {hs : Ps} {n v : Bs} (h : findP hs n = some v) : (n, v) ∈ hs := by
  induction hs with
  | nil => cases h
  | cons p s ih =>
    unfold findP at h
    split at h
    · rename_i e; cases h; subst e; simp
    · simp [ih h]
theorem pick_mem {hs : Ps} : ∀ (r : List Bs) (l : Bs) (s : Ps), pickFrom hs l r = some s → ∀ x ∈ s, x ∈ hs := by
  intro r
  induction r with
  | nil => intro l s h; simp [pickFrom] at h; subst h; simp
  | cons n r ih =>
    intro l s h
    unfold pickFrom at h
    split at h
    · cases h
    · rename_i v hv
      split at h
      · cases h
      · rw [Option.map_eq_some_iff] at h
        obtain ⟨t, ht, rfl⟩ := h
        intro x hx
        rcases List.mem_cons.1 hx with rfl | hx
        · exact find_in hv
        · exact ih n t ht x hx
theorem phold.len {w : World} {B : Nat} {v : Value} {l : Ps} (h : phold w B v l) : ∃ a c, v = .slice a l.length c := by
  rcases h with ⟨rfl, rfl⟩ | ⟨g, cap, rfl, hg, hc⟩
  · exact ⟨none, 0, rfl⟩
  · exact ⟨_, cap, rfl⟩
theorem phold.at {w : World} {B n c : Nat} {a : Option Addr} {l : Ps} (h : phold w B (.slice a n c) l) {k : Nat} (hk : k < l.length) : ∃ g, some ⟨g, 0, none⟩ = a ∧ g < B ∧ w.cell? ⟨g, k * 2, none⟩ = some (str l[k].1) ∧ w.cell? ⟨g, k * 2 + 1, none⟩ = some (str l[k].2) := by
  rcases h with ⟨_, rfl⟩ | ⟨g, cap, h1, hg, hc⟩
  · exact absurd hk (by simp)
  · cases h1; exact ⟨g, rfl, hg, hc k hk⟩
theorem told_len {s : Ps} (h : ∀ x ∈ s, x.1.length ≤ 1000000 ∧ x.2.length ≤ 1000000) : (told s).length ≤ s.length * 2000002 := by
  induction s with
  | nil => simp [told]
  | cons p s ih =>
    have h1 := h p (by simp)
    have h2 := ih (fun x hx => h x (by simp [hx]))
    have e : told (p :: s) = (lineText p ++ [10]) ++ told s := by simp [told]
    rw [e]
    simp only [List.length_append, lineText, List.length_cons, List.length_nil]
    omega
theorem hashT_len (y : Bs) : (hashT y).length = 64 := by
  unfold hashT; rw [hexL_len, digest_len]
theorem canonText_len {m p q : Bs} {s : Ps} {list : Bs} {y : Bs} (b1 : m.length ≤ 1000000) (b2 : p.length ≤ 1000000) (b3 : q.length ≤ 100000001000000) (hsl : s.length ≤ 2000001) (hsb : ∀ x ∈ s, x.1.length ≤ 1000000 ∧ x.2.length ≤ 1000000) (b7 : list.length ≤ 2000000) :
    (canonText m p q s list (hashT y)).length ≤ 140737488355328 := by
  rw [canon_told]
  have h1 := told_len hsb
  have h2 := (enc_len true p).2
  have h3 := hashT_len y
  simp only [List.length_append, List.length_cons, List.length_nil]
  omega
theorem co_none {m p : Bs} {q hs : Ps} {y list : Bs} (h : pickFrom hs [] (namesOf list) = none) : canonOf m p q hs y list = none := by unfold canonOf; rw [h]
theorem co_miss {m p : Bs} {q hs s : Ps} {y list : Bs} (h : pickFrom hs [] (namesOf list) = some s) (k : misses hs s = true) : canonOf m p q hs y list = none := by unfold canonOf; rw [h]; simp only; rw [if_pos k]
theorem co_some {m p : Bs} {q hs s : Ps} {y list : Bs} (h : pickFrom hs [] (namesOf list) = some s) (k : misses hs s = false) : canonOf m p q hs y list = some (canonText m p (canonQ q) s list (hashT y)) := by
  unfold canonOf; rw [h]; simp only; rw [if_neg (by rw [k]; simp)]
theorem line_take {s : Ps} {k : Nat} (h : k < s.length) (a : List Bs) : a ++ (s.take (k + 1)).map lineText = (a ++ (s.take k).map lineText) ++ [s[k].1 ++ [58] ++ s[k].2] := by
  rw [List.take_succ_eq_append_getElem h, List.map_append, ← List.append_assoc]; rfl

/-- What stands while a form is told: the request's cells, the variables, the rows that are read. -/
structure CSt (w0 : World) (B b : Nat) (m p y : Bs) (qv : Value) (q : Ps) (sv : Value) (s : Ps) (W : World) : Prop where
  d0 : W.cell? ⟨b, 0, none⟩ = some (str m)
  d1 : W.cell? ⟨b, 1, none⟩ = some (str p)
  d2 : W.cell? ⟨b, 2, none⟩ = some qv
  d4 : W.cell? ⟨b, 4, none⟩ = some (str y)
  hz : b < B
  hB : B ≤ W.heap.size
  E : Env W
  gE : gTop ≤ B
  L : Laid W
  g1 : 2 < B
  g2 : 0 < B
  hq : phold W B qv q
  hs : phold W B sv s
  hw : Below b w0 W
theorem CSt.step {w0 : World} {B b : Nat} {m p y : Bs} {qv : Value} {q : Ps} {sv : Value} {s : Ps} {W W' : World} (h : CSt w0 B b m p y qv q sv s W) (k : Below B W W') : CSt w0 B b m p y qv q sv s W' :=
  ⟨(k.cell (p := ⟨b, 0, none⟩) h.hz).trans h.d0, (k.cell (p := ⟨b, 1, none⟩) h.hz).trans h.d1, (k.cell (p := ⟨b, 2, none⟩) h.hz).trans h.d2, (k.cell (p := ⟨b, 4, none⟩) h.hz).trans h.d4, h.hz, Nat.le_trans h.hB k.size,
    h.E.below k h.gE, h.gE, h.L.below k h.g1 h.g2, h.g1, h.g2, h.hq.below k, h.hs.below k, h.hw.trans (k.mono (Nat.le_of_lt h.hz))⟩
theorem CSt.call {w0 : World} {B b : Nat} {m p y : Bs} {qv : Value} {q : Ps} {sv : Value} {s : Ps} {W W' : World} (h : CSt w0 B b m p y qv q sv s W) (k : Below W.heap.size W W') : CSt w0 B b m p y qv q sv s W' := h.step (k.mono h.hB)
theorem CSt.drew {w0 : World} {B b : Nat} {m p y : Bs} {qv : Value} {q : Ps} {sv : Value} {s : Ps} {W : World} (h : CSt w0 B b m p y qv q sv s W) : CSt w0 B b m p y qv q sv s W.drew := h.step (Below.refl _ _).drew
theorem CSt.alloc {w0 : World} {B b : Nat} {m p y : Bs} {qv : Value} {q : Ps} {sv : Value} {s : Ps} {W : World} (h : CSt w0 B b m p y qv q sv s W) (o : Obj) : CSt w0 B b m p y qv q sv s (W.alloc o) := h.step ((Below.refl _ _).alloc h.hB _)

set_option maxRecDepth 20000 in
set_option maxHeartbeats 4000000 in
theorem canon_any (m p : Bs) (q hs : Ps) (qv hv : Value) (y list : Bs) (w : World) (hq : phold w w.heap.size qv q) (hh : phold w w.heap.size hv hs) (E : Env w) (L : Laid w)
    (b1 : m.length ≤ 1000000) (b2 : p.length ≤ 1000000) (b3 : q.length ≤ 1000000) (b4 : ∀ p ∈ q, p.1.length ≤ 1000000 ∧ p.2.length ≤ 1000000) (b5 : hs.length ≤ 1000000) (b6 : y.length ≤ 1000000) (b7 : list.length ≤ 2000000) (b8 : ∀ p ∈ hs, p.1.length ≤ 1000000 ∧ p.2.length ≤ 1000000) :
    Calls Tryz.prog 37 #[.agg #[str m, str p, qv, hv, str y], str list] w fun e w' => e = cEnd (canonOf m p q hs y list) ∧ Below w.heap.size w w' := by
  have hW : Below w.heap.size w (w.alloc (.cells #[str m, str p, qv, hv, str y] 80)) := (Below.refl _ _).alloc (Nat.le_refl _) _
  have d0 : (w.alloc (.cells #[str m, str p, qv, hv, str y] 80)).cell? ⟨w.heap.size, 0, none⟩ = some (str m) := by simp [go_sem]
  have d1 : (w.alloc (.cells #[str m, str p, qv, hv, str y] 80)).cell? ⟨w.heap.size, 1, none⟩ = some (str p) := by simp [go_sem]
  have d2 : (w.alloc (.cells #[str m, str p, qv, hv, str y] 80)).cell? ⟨w.heap.size, 2, none⟩ = some qv := by simp [go_sem]
  have d3 : (w.alloc (.cells #[str m, str p, qv, hv, str y] 80)).cell? ⟨w.heap.size, 3, none⟩ = some hv := by simp [go_sem]
  have d4 : (w.alloc (.cells #[str m, str p, qv, hv, str y] 80)).cell? ⟨w.heap.size, 4, none⟩ = some (str y) := by simp [go_sem]
  have hz : w.heap.size < (w.alloc (.cells #[str m, str p, qv, hv, str y] 80)).heap.size := by simp
  replace hq := hq.call hW
  replace hh := hh.call hW
  replace E := E.call hW
  replace L := L.call hW
  go_enter Tryz.func37, Tryz.ntmps37
  go_wp2_with fail
  refine (pick_any hv hs list _ hh E b5 b7).mono ?_
  rintro e w2 ⟨hb2, hm⟩
  generalize (w.alloc (.cells #[str m, str p, qv, hv, str y] 80)) = W1 at *
  obtain ⟨b, hbe⟩ : ∃ b, w.heap.size = b := ⟨_, rfl⟩
  have HBE : Hid (w.heap.size = b) := hbe
  rw [hbe] at hW d0 d1 d2 d3 d4 hz
  simp only [hbe]
  clear hbe
  have HF : Hid (∀ W, Below b w W → Below w.heap.size w W) := fun W k => by rw [HBE.out]; exact k
  have hw2 : Below b w w2 := hW.trans (hb2.mono (Nat.le_of_lt hz))
  replace d0 := (hb2.cell (p := ⟨b, 0, none⟩) hz).trans d0
  replace d1 := (hb2.cell (p := ⟨b, 1, none⟩) hz).trans d1
  replace d2 := (hb2.cell (p := ⟨b, 2, none⟩) hz).trans d2
  replace d3 := (hb2.cell (p := ⟨b, 3, none⟩) hz).trans d3
  replace d4 := (hb2.cell (p := ⟨b, 4, none⟩) hz).trans d4
  replace hq := hq.call hb2
  replace hh := hh.call hb2
  replace E := E.call hb2
  replace L := L.call hb2
  have hz2 := hb2.size
  cases hp : pickFrom hs [] (namesOf list) with
  | none =>
    have CO : Hid (canonOf m p q hs y list = none) := co_none hp
    rw [hp] at hm
    simp only at hm
    subst hm
    go_wp2
    go_ret2
    exact ⟨cEnd_no CO.out, HF.out _ hw2⟩
  | some s =>
    rw [hp] at hm
    simp only at hm
    obtain ⟨sv, rfl, hrow⟩ := hm
    have hsl : s.length ≤ 2000001 := pick_len b7 hp
    have hsb : ∀ x ∈ s, x.1.length ≤ 1000000 ∧ x.2.length ≤ 1000000 := fun x hx => b8 x (pick_mem _ _ _ hp x hx)
    have S2 : CSt w w2.heap.size b m p y qv q sv s w2 := ⟨d0, d1, d2, d4, Nat.lt_of_lt_of_le hz hz2, Nat.le_refl _, E, E.sz, L, L.gk, L.gs, hq, hrow.hold, hw2⟩
    have hh2 := hh
    clear hh hq E L hw2 d0 d1 d2 d4 hb2 hW hrow
    go_wp2_with fail
    refine (misses_any hv sv hs s w2 hh2 S2.hs b5 (by omega)).mono ?_
    rintro e w3 ⟨rfl, hb3⟩
    have S3 := S2.call hb3
    have hz3 := hb3.size
    clear hb3
    cases hmi : misses hs s with
    | true =>
      have CO : Hid (canonOf m p q hs y list = none) := co_miss hp hmi
      go_wp2
      go_ret2
      exact ⟨cEnd_no CO.out, HF.out _ S3.hw⟩
    | false =>
      have CO : Hid (canonOf m p q hs y list = some (canonText m p (canonQ q) s list (hashT y))) := co_some hp hmi
      have c0 := S3.d0
      have c1 := S3.d1
      have c2 := S3.d2
      have BB : ∀ W, CSt w w2.heap.size b m p y qv q sv s W → W.cell? ⟨b, 0, none⟩ = some (str m) ∧ W.cell? ⟨b, 1, none⟩ = some (str p) ∧ W.cell? ⟨b, 2, none⟩ = some qv := fun W k => ⟨k.d0, k.d1, k.d2⟩
      go_wp2_with fail
      go_region_held3 (fun w' => w'.cell? ⟨b, 0, none⟩ = some (str m) ∧ w'.cell? ⟨b, 1, none⟩ = some (str p) ∧ w'.cell? ⟨b, 2, none⟩ = some qv) (first | exact BB _ S3 | exact BB _ S3.drew | exact BB _ (S3.alloc _))
        (first
          | (go_at_call 42; refine (encode_r p true _ (by omega)).mono ?_; rintro e w6 ⟨rfl, hb6⟩; replace S3 : CSt w w2.heap.size b m p y qv q sv s w6 := (by first | exact S3.call hb6 | exact S3.drew.call hb6))
          | (go_at_call 61; refine (canonQ_any qv q _ (S3.hq.up S3.hB) b3 b4).mono ?_; rintro e w7 ⟨rfl, hb7⟩; replace S3 : CSt w w2.heap.size b m p y qv q sv s w7 := (by first | exact S3.call hb7 | exact S3.drew.call hb7)))
      rename_i hHeld
      clear hHeld
      have row0 := srow_three (w := w7) (B := w2.heap.size) m (enc true p) (canonQ q) S3.hB
      replace S3 := S3.alloc (.cells #[str m, str (enc true p), str (canonQ q)] 9)
      obtain ⟨sa, sc, rfl⟩ := S3.hs.len
      clear c0 c1 c2 BB hb6 hb7 hh2 d3 S2
      generalize w7.alloc (.cells #[str m, str (enc true p), str (canonQ q)] 9) = w8 at *
      generalize Value.slice (some ⟨w7.heap.size, 0, none⟩) 3 3 = lv at *
      go_wp2
      go_loopw [8, 37] (fun v i wr => ∃ k : Nat, k ≤ s.length ∧ i = .int .i64 k ∧ srow wr w2.heap.size v ([m, enc true p, canonQ q] ++ (s.take k).map lineText) ∧ CSt w w2.heap.size b m p y qv q (.slice sa s.length sc) s wr) (fun _ i _ => s.length - (intOf i).toNat)
      case atStart => exact ⟨0, Nat.zero_le _, rfl, row0, S3⟩
      case round =>
        clear S3 row0
        obtain ⟨k, hk, rfl, hrow, S4⟩ := hrel
        have hB4 := S4.hB
        by_cases hlt : k < s.length
        · obtain ⟨g, e1, hg, c1, c2⟩ := S4.hs.at hlt
          cases e1
          have HS : Hid ([m, enc true p, canonQ q] ++ (s.take (k + 1)).map lineText = ([m, enc true p, canonQ q] ++ (s.take k).map lineText) ++ [s[k].1 ++ [58] ++ s[k].2]) := line_take hlt _
          have hol : ([m, enc true p, canonQ q] ++ (s.take k).map lineText).length ≤ 2000010 := by
            simp only [List.length_append, List.length_map, List.length_take, List.length_cons, List.length_nil]; omega
          obtain ⟨l1, l2⟩ := hsb s[k] (List.getElem_mem hlt)
          generalize s[k] = x at *
          obtain ⟨xn, xv⟩ := x
          simp only at c1 c2 HS l1 l2
          generalize [m, enc true p, canonQ q] ++ (s.take k).map lineText = o at *
          have HC2 : Hid (#[Value.string ((⟨xn.toArray⟩ : ByteArray) ++ ⟨#[58]⟩ ++ ⟨xv.toArray⟩)] = #[str (xn ++ [58] ++ xv)]) := by
            show _ = _
            have e3 : ((⟨xn.toArray⟩ : ByteArray) ++ ⟨#[58]⟩) = ⟨(xn ++ [58]).toArray⟩ := str_app _ [58]
            rw [e3, str_app]
          go_wp2_with (at_builtin; refine sapp_law rfl _ _ rfl w2.heap.size o (xn ++ [58] ++ xv) _ rfl ((hrow.alloc _).alloc _) _ rfl _ (heap_new_at (by simp) HC2.out) (by omega) (by simp; omega) ?_; intro v' w9 row9 _ hb9)
          go_roundw
          case rel => exact ⟨k + 1, by omega, by go_num, by rw [HS.out]; exact row9, ((S4.alloc _).alloc _).step hb9⟩
          case measure => simp [intOf]; omega
        · have HT : Hid (s.take k = s) := List.take_of_length_le (by omega)
          rw [HT.out] at hrow
          have hol : ([m, enc true p, canonQ q] ++ s.map lineText).length ≤ 2000010 := by
            simp only [List.length_append, List.length_map, List.length_cons, List.length_nil]; omega
          have HCT : Hid (Lib.join (([m, enc true p, canonQ q] ++ s.map lineText) ++ [[], list, hashT y]) [10] = canonText m p (canonQ q) s list (hashT y)) := rfl
          have HCL : Hid ((canonText m p (canonQ q) s list (hashT y)).length ≤ 140737488355328) := canonText_len b1 b2 (canonQ_len b3 b4) hsl hsb b7
          generalize [m, enc true p, canonQ q] ++ s.map lineText = o at *
          have d4 := S4.d4
          go_wp2_with fail
          refine (mhash_any y (by omega) _ S4.L).mono ?_
          rintro e w5 ⟨rfl, hb5⟩
          have S5 := S4.call hb5
          have row5 := hrow.below hb5
          clear hrow S4 hb5 hB4 d4
          go_wp2_with fail
          refine (digits_any (digest y) (digest_len y) _).mono ?_
          rintro e w6 ⟨rfl, hb6⟩
          rw [show hexL lowF (digest y) = hashT y from rfl]
          have S6 := S5.call hb6
          have row6 := row5.below hb6
          have hB6 := S6.hB
          clear row5 S5 hb6
          go_wp2_with (at_builtin; refine sappL_law rfl _ _ rfl w2.heap.size o [[], list, hashT y] 3 rfl (by omega) _ rfl (row6.alloc _) _ rfl _ (heap_alloc_new _ _) (by omega) (by simp; omega) ?_; intro v' w9 row9 _ hb9)
          refine (join_h _ (o ++ [[], list, hashT y]) [10] w2.heap.size _ row9 (by simp; omega) (by rw [HCT.out]; exact HCL.out)).mono ?_
          rintro e w10 ⟨rfl, hb10⟩
          have S10 := ((S6.alloc _).step hb9).call hb10
          rw [HCT.out]
          go_wp2
          go_ret2
          exact ⟨cEnd_ok CO.out, HF.out _ S10.hw⟩
end Go.Proofs.YtinnliapfdpfpaaGreatDoor.R
