/-
  KVer, KLog, KMay, KVrs, KBeg, KMk.
-/
import Derived.Test.YtbllcgibmgbnjaaGreatDoorM10
import Derived.Test.YtbllcgibmgbnjaaGreatDoorM19
import Derived.BigRegion
import Derived.Test.YtbllcgibmgbnjaaGreatDoorM13
import Derived.Deep.RegionWith
import Derived.Deep.RegionHeld3
import Derived.Deep.CutRange
import Derived.Test.YtbllcgibmgbnjaaGreatDoorM17
import Derived.BigQuiet
namespace Go.Proofs.YtbllcgibmgbnjaaGreatDoor.P
open Go.RowKit
open Go.Proofs.YtbllcgibmgbnjaaGreatDoor.C (ret_bool ret_int ret_str)

theorem vcells_at : ∀ (l : List Ver) (k : Nat) (h : k < l.length), (vcells l)[k * 3]? = some (.int .i64 (l[k].num : Int)) ∧ (vcells l)[k * 3 + 1]? = some (.bool l[k].mark) ∧ (vcells l)[k * 3 + 2]? = some (str l[k].body)
  | v :: l, 0, _ => ⟨rfl, rfl, rfl⟩
  | v :: l, k + 1, h => by
    have := vcells_at l k (by simpa using h)
    rw [show (k + 1) * 3 = k * 3 + 1 + 1 + 1 by omega]
    exact this
theorem vcells_len (l : List Ver) : (vcells l).length = l.length * 3 := by
  induction l with
  | nil => rfl
  | cons v l ih => simp only [vcells, List.flatMap_cons, List.length_append, List.length_cons] at *; rw [ih]; simp [vcell]; omega
theorem vcells_snoc (l : List Ver) (v : Ver) : vcells (l ++ [v]) = vcells l ++ vcell v := by simp [vcells]
/-- A row of versions. -/
abbrev vrow (w : World) (sl : Value) (l : List Ver) : Prop := w.ownsRow 0 292 3 sl l.length (vcells l)
theorem vrow.at {w : World} {a : Option Addr} {n c : Nat} {l : List Ver} (h : vrow w (.slice a n c) l) {k : Nat} (hk : k < l.length) :
    ∃ g, a = some ⟨g, 0, none⟩ ∧ g < w.heap.size ∧ w.cell? ⟨g, k * 3, none⟩ = some (.int .i64 (l[k].num : Int)) ∧ w.cell? ⟨g, k * 3 + 1, none⟩ = some (.bool l[k].mark) ∧ w.cell? ⟨g, k * 3 + 2, none⟩ = some (str l[k].body) := by
  obtain ⟨a', cap, e, _, hc⟩ := row_view h
  cases e
  obtain ⟨e0, e1, e2⟩ := vcells_at l k hk
  obtain ⟨g, rfl, c0, hg⟩ := hc _ _ e0
  obtain ⟨g1, q1, c1, _⟩ := hc _ _ e1
  obtain ⟨g2, q2, c2, _⟩ := hc _ _ e2
  obtain rfl : g = g1 := by simpa using q1
  obtain rfl : g = g2 := by simpa using q2
  exact ⟨g, rfl, hg, c0, c1, c2⟩
theorem vrow.sl {w : World} {sl : Value} {l : List Ver} (h : vrow w sl l) : ∃ a c, sl = .slice a l.length c ∧ l.length ≤ c := by
  obtain ⟨a, cap, e, hc, _⟩ := row_view h
  exact ⟨a, cap, e, hc⟩
theorem vrow.below {w w' : World} {sl : Value} {l : List Ver} (h : vrow w sl l) (b : Below w.heap.size w w') : vrow w' sl l :=
  (Kept.of_below b).row h (fun g hg e => by have := (World.ownsRow.lt h g hg).2; omega)
/-- Where the first version of a number stands. -/
def vIdx (l : List Ver) (n : Nat) : Option Nat := l.findIdx? (fun v => v.num == n)
def vIdxI (o : Option Nat) : Int := match o with
  | some i => (i : Int)
  | none => -1
set_option maxHeartbeats 1000000 in
theorem isNum_any (v : Ver) (n : Nat) (K : Nat) (w : World) (hK : w.cell? ⟨K, 0, none⟩ = some (.int .i64 (n : Int))) :
    Calls Tryz.prog 223 #[.agg #[.int .i64 (v.num : Int), .bool v.mark, str v.body], .pointer (some ⟨K, 0, none⟩)] w fun e w' => e = .returned (.bool (v.num == n)) ∧ Below w.heap.size w w' := by
  have hK2 : ∀ o, (w.alloc o).cell? ⟨K, 0, none⟩ = some (.int .i64 (n : Int)) := fun o => cell_alloc hK o
  go_enter Tryz.func223, Tryz.ntmps223
  go_wp2
  go_ret
  refine ⟨ret_bool ?_, (Below.refl _ _).alloc (Nat.le_refl _) _⟩
  rw [Bool.eq_iff_iff]; simp only [beq_iff_eq]; omega
theorem vIdx_none {l : List Ver} {n : Nat} : vIdx l n = none ↔ ∀ v ∈ l, (v.num == n) = false := by
  unfold vIdx; rw [List.findIdx?_eq_none_iff]
theorem vIdx_hit {l : List Ver} {n k : Nat} (hk : k < l.length) (h : ∀ v ∈ l.take k, (v.num == n) = false) (hv : (l[k].num == n) = true) : vIdx l n = some k := by
  unfold vIdx
  rw [List.findIdx?_eq_some_iff_getElem]
  refine ⟨hk, hv, fun j hj => ?_⟩
  have := h l[j] (by rw [List.mem_take_iff_getElem]; exact ⟨j, by omega, rfl⟩)
  simp [this]
set_option maxHeartbeats 1000000 in
theorem vIndexFunc_any (K n : Nat) (sl : Value) (l : List Ver) (w : World) (h : vrow w sl l) (hl : l.length ≤ 1000000) (hK : w.cell? ⟨K, 0, none⟩ = some (.int .i64 (n : Int))) :
    Calls Tryz.prog 222 #[sl, .func (.func 223) #[] #[.pointer (some ⟨K, 0, none⟩)]] w fun e w' => e = .returned (.int .i64 (vIdxI (vIdx l n))) ∧ Below w.heap.size w w' := by
  obtain ⟨a, cap, rfl, hcap⟩ := vrow.sl h
  have HR : Hid (vrow w (.slice a l.length cap) l) := h
  have hKb := World.block_lt_of_cell? w ⟨K, 0, none⟩ hK
  clear h
  go_enter Tryz.func222, Tryz.ntmps222
  go_wp2
  go_loopw [8] (fun i wr => ∃ k : Nat, k ≤ l.length ∧ i = .int .i64 k ∧ (∀ v ∈ l.take k, (v.num == n) = false) ∧ Below w.heap.size w wr) (fun i _ => l.length - (intOf i).toNat)
  case atStart => exact ⟨0, Nat.zero_le _, rfl, by simp, Below.refl _ _⟩
  case round =>
    obtain ⟨k, hk, rfl, hno, hb⟩ := hrel
    have HN : Hid (∀ v ∈ l.take k, (v.num == n) = false) := hno
    clear hno
    by_cases hlt : k < l.length
    · obtain ⟨g, rfl, hg, c0, c1, c2⟩ := (vrow.below HR.out hb).at hlt
      have F : Hid (_) := isNum_any l[k] n K wr ((hb.cell (p := ⟨K, 0, none⟩) hKb).trans hK)
      go_wp2_with fail
      refine Calls.mono F.out ?_
      rintro e w1 ⟨rfl, hb1⟩
      clear F
      cases he : (l[k].num == n) with
      | true =>
        have HY : Hid (vIdx l n = some k) := vIdx_hit hlt HN.out he
        clear HN
        go_wp2
        go_ret
        exact ⟨by rw [HY.out]; rfl, below_trans hb hb1⟩
      | false =>
        have HY : Hid (∀ v ∈ l.take (k + 1), (v.num == n) = false) := by
          intro v hv
          rw [List.take_succ_eq_append_getElem hlt, List.mem_append] at hv
          rcases hv with hv | hv
          · exact HN.out v hv
          · rw [List.mem_singleton.1 hv]; exact he
        clear HN
        go_wp2
        go_roundw
        case rel => exact ⟨k + 1, by omega, by go_num, HY.out, below_trans hb hb1⟩
        case measure => simp [intOf]; omega
    · have HY : Hid (vIdx l n = none) := vIdx_none.2 (by have := HN.out; rwa [List.take_of_length_le (by omega)] at this)
      clear HN
      go_wp2
      go_ret
      exact ⟨by rw [HY.out]; rfl, hb⟩
set_option maxHeartbeats 1000000 in
theorem indexOf_any (n : Nat) (sl : Value) (l : List Ver) (w : World) (h : vrow w sl l) (hl : l.length ≤ 1000000) :
    Calls Tryz.prog 187 #[sl, .int .i64 (n : Int)] w fun e w' => e = .returned (.int .i64 (vIdxI (vIdx l n))) ∧ Below w.heap.size w w' := by
  have b0 : Below w.heap.size w (w.alloc (.cells #[.int .i64 (n : Int)] 3)) := (Below.refl _ _).alloc (Nat.le_refl _) _
  have F : Hid (_) := vIndexFunc_any w.heap.size n sl l (w.alloc (.cells #[.int .i64 (n : Int)] 3)) (vrow.below h b0) hl (by simp [go_sem])
  have hmf : ∀ (fn : Fn) (first cap : Array Value) (w : World), (Instr.makeFunc fn first cap).run Tryz.prog w = .ok (.func fn first cap) w := fun _ _ _ _ => rfl
  clear h
  go_enter Tryz.func187, Tryz.ntmps187
  go_wp2_with fail
  refine Calls.mono F.out ?_
  rintro e w1 ⟨rfl, hb1⟩
  go_wp2
  go_ret
  exact ⟨rfl, below_trans b0 hb1⟩
end Go.Proofs.YtbllcgibmgbnjaaGreatDoor.P
namespace Go.Proofs.YtbllcgibmgbnjaaGreatDoor.P
open Go.RowKit
open Go.Proofs.YtbllcgibmgbnjaaGreatDoor.C (ret_bool ret_int ret_str)

theorem BMap.roles {w : World} {m : Nat} {r r' : Roles} {bk : Tx → Option Bkt} (h : BMap w m r bk) (hr : ∀ g, r g = .ro → r' g = .ro) : BMap w m r' bk := by
  obtain ⟨f, h1, h2, h3⟩ := h
  exact ⟨f, h1, h2, fun n x e => by obtain ⟨sl, e1, e2⟩ := h3 n x e; exact ⟨sl, e1, e2.mono hr⟩⟩
theorem VMap.roles {w : World} {m : Nat} {r r' : Roles} {vs : Tx → Tx → List Ver} (h : VMap w m r vs) (hr : ∀ g b k, r g = .ver b k → r' g = .ver b k) : VMap w m r' vs := by
  obtain ⟨f, h1, h2, h3⟩ := h
  exact ⟨f, h1, h2, fun b k e => by obtain ⟨sl, e1, e2, e3⟩ := h3 b k e; exact ⟨sl, e1, e2, fun g hg => hr g b k (e3 g hg)⟩⟩
theorem KSv.blt {b : Nat} {s : Sto} {r : Roles} {uv lv : Value} {mb mv : Nat} {w : World} (h : KSv b s r uv lv mb mv w) : b < w.heap.size := h.dom b (by rw [h.rb]; simp)
/-- A role for one block more, or for one that had it. -/
def newR (r : Roles) (o : Option Nat) (c : Role) : Roles := fun g => if o = some g then c else r g
theorem newR_eq {r : Roles} {o p : Option Nat} {c : Role} {H : Nat} (hp : ∀ g, p = some g → r g = c) (hl : o = p ∨ o = some H) (hd : ∀ g, r g ≠ .none → g < H) {g : Nat} (hn : r g ≠ .none) (hc : r g ≠ c) : newR r o c g = r g := by
  unfold newR
  by_cases h : o = some g
  · rcases hl with e | e
    · exact absurd (hp g (e.symm.trans h)) hc
    · rw [h] at e; cases e; exact absurd (hd _ hn) (by omega)
  · rw [if_neg h]
theorem newR_dom {r : Roles} {o : Option Nat} {c : Role} {g : Nat} (h : newR r o c g ≠ .none) : o = some g ∨ r g ≠ .none := by
  unfold newR at h
  by_cases e : o = some g
  · exact .inl e
  · rw [if_neg e] at h; exact .inr h
theorem KSv.log {b : Nat} {s : Sto} {r : Roles} {uv lv : Value} {mb mv : Nat} {w w2 : World} (h : KSv b s r uv lv mb mv w) {v' : Value} {l' : Tx} (k : w.grownBy w2 lv.ownBlock) (own : owns w2 0 v' l') (lies : v'.ownBlock = lv.ownBlock ∨ v'.ownBlock = some w.heap.size) :
    KSv b { s with log := l' } (newR r v'.ownBlock .log) uv v' mb mv (w2.setCell ⟨b, 2, none⟩ v') ∧ Step r w (newR r v'.ownBlock .log) (w2.setCell ⟨b, 2, none⟩ v') := by
  have hb := h.blt
  have kk : Kept (fun g => lv.ownBlock = some g) w w2 := Kept.of_grown k
  have nb : ¬ lv.ownBlock = some b := fun e => by have := h.lr b e; rw [h.rb] at this; cases this
  have E : ∀ {g}, r g ≠ .none → r g ≠ .log → newR r v'.ownBlock .log g = r g := fun hn hc => newR_eq h.lr lies h.dom hn hc
  have KS2 : Kept (· = b) w2 (w2.setCell ⟨b, 2, none⟩ v') := Kept.of_grown1 (grown_set _ _ _ _)
  have c2 : w2.cell? ⟨b, 2, none⟩ = some lv := kk.cell h.c2 nb
  have F : ∀ j : Nat, w2.frozen? ⟨b, j, none⟩ = false := fun j => kk.frozen (a := ⟨b, j, none⟩) hb (h.fz j) nb
  have e0 := kk.cell h.c0 nb; have e1 := kk.cell h.c1 nb; have e3 := kk.cell h.c3 nb; have e4 := kk.cell h.c4 nb; have e5 := kk.cell h.c5 nb
  have no : ∀ g, r g ≠ .none → r g ≠ .log → ¬ lv.ownBlock = some g := fun g _ h2 e => h2 (h.lr g e)
  have nv : ∀ g, v'.ownBlock = some g → ¬ g = b := fun g e hgb => by
    subst hgb
    rcases lies with e2 | e2
    · exact nb (e2.symm.trans e)
    · rw [e] at e2; cases e2; omega
  refine ⟨{ c0 := ?_, c1 := ?_, c2 := ?_, c3 := ?_, c4 := ?_, c5 := ?_, fz := ?_, rb := ?_, us := ?_, ur := ?_, lg := ?_, lr := ?_, bk := ?_, rk := ?_, vs := ?_, rv := ?_, dom := ?_ }, ?_, ?_⟩
  · simp [go_sem, e0]
  · simp [go_sem, e1]
  · simp [go_sem, c2]
  · simp [go_sem, e3]
  · simp [go_sem, e4]
  · simp [go_sem, e5]
  · intro j; simp [go_sem, F]
  · rw [E (by rw [h.rb]; simp) (by rw [h.rb]; simp)]; exact h.rb
  · exact KS2.row (kk.row h.us (fun g e => no g (by rw [h.ur g e]; simp) (by rw [h.ur g e]; simp))) (fun g e hgb => by have := h.ur g e; rw [hgb, h.rb] at this; cases this)
  · intro g e; rw [E (by rw [h.ur g e]; simp) (by rw [h.ur g e]; simp)]; exact h.ur g e
  · exact KS2.row own nv
  · intro g e; unfold newR; rw [if_pos e]
  · exact ((h.bk.kept kk (no mb (by rw [h.rk]; simp) (by rw [h.rk]; simp)) (fun g e => no g (by rw [e]; simp) (by rw [e]; simp))).kept KS2 (fun e => by have := h.rk; rw [e, h.rb] at this; cases this) (fun g e hgb => by rw [hgb, h.rb] at e; cases e)).roles (fun g e => by rw [E (by rw [e]; simp) (by rw [e]; simp)]; exact e)
  · rw [E (by rw [h.rk]; simp) (by rw [h.rk]; simp)]; exact h.rk
  · exact ((h.vs.kept kk (no mv (by rw [h.rv]; simp) (by rw [h.rv]; simp)) (fun g _ _ e => no g (by rw [e]; simp) (by rw [e]; simp))).kept KS2 (fun e => by have := h.rv; rw [e, h.rb] at this; cases this) (fun g _ _ e hgb => by rw [hgb, h.rb] at e; cases e)).roles (fun g _ _ e => by rw [E (by rw [e]; simp) (by rw [e]; simp)]; exact e)
  · rw [E (by rw [h.rv]; simp) (by rw [h.rv]; simp)]; exact h.rv
  · intro g e
    have hs := k.size
    simp
    rcases newR_dom e with e | e
    · exact (World.ownsRow.lt own g e).2
    · exact Nat.lt_of_lt_of_le (h.dom g e) hs
  · exact (kk.mono (fun g _ e => by have := h.lr g e; rw [this]; simp)).trans KS2 (fun g _ e => by subst e; rw [h.rb]; simp)
  · intro g hg e
    rcases newR_dom e with e | e
    · rcases lies with e2 | e2
      · rw [h.lr g (e2.symm.trans e)]; simp
      · rw [e] at e2; cases e2; omega
    · exact e
theorem wpList_append_str {w : World} {ops : Array Oper} {rest : List Oper} {o : Oper} {a : Act} {Q : Exit → Act → World → Prop} (hgd : o.guard = none) (sl x : Operand)
    (ho : o.op = .call { callee := .builtin .append, args := #[sl, x], argTypes := #[70, 9] })
    (v : Value) (l : Tx) (hs : a.eval sl = v) (hown : owns w 0 v l) (t : Tx) (hx : a.eval x = str t) (hbytes : l.length + t.length ≤ 140737488355328)
    (h : ∀ v' w', owns w' 0 v' (l ++ t) → w.grownBy w' v.ownBlock → (v'.ownBlock = v.ownBlock ∨ v'.ownBlock = some w.heap.size) → wpList Tryz.prog ops Q rest (a.put o.dst v') w') : wpList Tryz.prog ops Q (o :: rest) a w := by
  obtain ⟨i0, hi, hz0, hz1, hz2⟩ := info_parts Tryz.infoByte
  refine wpList_plain hgd fun K hK => ?_
  obtain ⟨v', w', hr, h2, h3, h4⟩ := run_append_str (P := Tryz.prog) w 70 9 o.type 5 i0 Tryz.underlying70 Tryz.underlying9 hi hz0 hz1 hz2 0 v l.length (l.map u8v) hown ⟨t.toArray⟩ (by simpa [ByteArray.size] using hbytes) (Nat.zero_le _)
  unfold Oper.wp execOp
  simp only [ho, resolve, invoke, builtin, Sem.run_bind, Sem.run_pure, Result.andThen_ok, List.map_toArray, List.map_cons, List.map_nil, hs, hx, hr]
  refine hK _ _ (h v' w' ?_ h3 h4)
  rw [strCells_l] at h2
  unfold owns
  rw [List.length_append, List.map_append]
  simpa [ByteArray.size] using h2
set_option maxHeartbeats 1000000 in
theorem klog_any (b : Nat) (s : Sto) (r : Roles) (w : World) (h : KS b s r w) :
    Calls Tryz.prog 40 #[.pointer (some ⟨b, 0, none⟩)] w fun e w' => e = .returned (str s.log) ∧ w = w' := by
  obtain ⟨uv, lv, mb, mv, h⟩ := h
  have c2 := h.c2
  have hcv := owns.conv h.lg
  clear h
  go_enter Tryz.func40, Tryz.ntmps40
  go_wp2
  go_ret
  exact ⟨rfl, rfl⟩
set_option maxHeartbeats 1000000 in
theorem klast_any (b : Nat) (s : Sto) (r : Roles) (w : World) (h : KS b s r w) :
    Calls Tryz.prog 132 #[.pointer (some ⟨b, 0, none⟩)] w fun e w' => e = .returned (.int .i64 (s.last : Int)) ∧ w = w' := by
  obtain ⟨uv, lv, mb, mv, h⟩ := h
  have c5 := h.c5
  clear h
  go_enter Tryz.func132, Tryz.ntmps132
  go_wp2
  go_ret
  exact ⟨rfl, rfl⟩
theorem owns.sl {w : World} {B : Nat} {v : Value} {l : Tx} (h : owns w B v l) : ∃ a c, v = .slice a l.length c := by
  obtain ⟨a, cap, e, _⟩ := row_view h
  exact ⟨a, cap, e⟩
set_option maxHeartbeats 2000000 in
theorem kwrite_any (b : Nat) (s : Sto) (r : Roles) (t : Tx) (w : World) (G : GL w) (h : KS b s r w) (hl : s.log.length ≤ 1000000) (ht : t.length ≤ 1000000) (_hrm : s.room ≤ 1000000) :
    Calls Tryz.prog 181 #[.pointer (some ⟨b, 0, none⟩), str t] w fun e w' => if s.log.length + t.length ≤ s.room then e = .returned .nilIface ∧ ∃ r', KS b { s with log := s.log ++ t } r' w' ∧ Step r w r' w'
      else (∃ c : Value, c.oneCell' = true ∧ e = .returned (.iface 148 (.agg #[.int .i64 507, c]))) ∧ Below w.heap.size w w' := by
  obtain ⟨uv, lv, mb, mv, h⟩ := h
  have HK : Hid (KSv b s r uv lv mb mv w) := h
  have hlg := h.lg
  obtain ⟨la, lc, rfl⟩ := owns.sl hlg
  have c1 := h.c1; have c2 := h.c2; have f2 := h.fz 2
  obtain ⟨et, ep, eroom⟩ := G.room
  have RF : Hid (∀ w, Calls Tryz.prog 80 #[.int .i64 507, .iface et ep] w fun e w' => e = .returned (.iface 148 (.agg #[.int .i64 507, .iface et ep])) ∧ w = w') := fun w => refuse_any 507 (.iface et ep) (.inr ⟨_, _, rfl⟩) w
  clear h
  by_cases hr : s.log.length + t.length ≤ s.room
  · have t1 : decide ((s.room : Int) < (s.log.length : Int) + (t.length : Int)) = false := by simp; omega
    simp only [if_pos hr]
    go_enter Tryz.func181, Tryz.ntmps181
    go_wp2_with fail
    go_region
    have nb : ¬ (Value.slice la s.log.length lc).ownBlock = some b := fun e => by have := HK.out.lr b e; rw [HK.out.rb] at this; cases this
    have hbl := HK.out.blt
    go_wp2_with (at_builtin; refine wpList_append_str rfl _ _ rfl (.slice la s.log.length lc) s.log rfl hlg t rfl (by omega) ?_; intro v' w2 own2 g2 l2; obtain ⟨va, vc, rfl⟩ := owns.sl own2; have d2 : w2.cell? ⟨b, 2, none⟩ = some (.slice la s.log.length lc) := (Kept.of_grown g2).cell (show w.drew.cell? ⟨b, 2, none⟩ = _ from c2) nb; have ff2 : w2.frozen? ⟨b, 2, none⟩ = false := (Kept.of_grown g2).frozen (a := ⟨b, 2, none⟩) hbl f2 nb)
    go_ret
    have g3 : w.grownBy w2 (Value.slice la s.log.length lc).ownBlock := ⟨g2.os, g2.tape, g2.output, g2.size, g2.block⟩
    obtain ⟨K1, K2⟩ := HK.out.log g3 own2 l2
    rw [List.length_append] at K1 K2
    exact ⟨rfl, _, ⟨_, _, _, _, K1⟩, K2⟩
  · have t1 : decide ((s.room : Int) < (s.log.length : Int) + (t.length : Int)) = true := by simp; omega
    simp only [if_neg hr]
    go_enter Tryz.func181, Tryz.ntmps181
    go_wp2_with fail
    go_region
    all_goals go_wp2_with (go_at_call 80; refine (RF.out _).mono ?_; rintro e w' ⟨rfl, rfl⟩)
    all_goals go_ret
    all_goals exact ⟨⟨_, rfl, rfl⟩, (Below.refl _ _).drew⟩
end Go.Proofs.YtbllcgibmgbnjaaGreatDoor.P
namespace Go.Proofs.YtbllcgibmgbnjaaGreatDoor.P
open Go.RowKit
open Go.Proofs.YtbllcgibmgbnjaaGreatDoor.C (ret_bool ret_int ret_str)

/-- What is kept stays within bounds. -/
structure Fine (s : Sto) : Prop where
  log : s.log.length ≤ 100000
  room : s.room ≤ 100000
  last : s.last ≤ s.log.length
  bk : ∀ n x, s.bk n = some x → x.rules.length ≤ 4 ∧ x.owner.length ≤ 100000 ∧ x.policy.length ≤ 100000
  vs : ∀ b k, (s.vs b k).length ≤ s.last ∧ ∀ v ∈ s.vs b k, v.body.length ≤ 100000 ∧ v.num ≤ s.last
theorem BMap.find {w : World} {m : Nat} {r : Roles} {bk : Tx → Option Bkt} (h : BMap w m r bk) (n : Tx) : ∃ f, MapIs isStr w m f ∧ ((bk n = none ∧ f (str n) = none) ∨ ∃ x sl, bk n = some x ∧ f (str n) = some (.agg #[str x.owner, str x.policy, Sl.v sl]) ∧ policyIn w (fun g => r g = .ro) (Sl.v sl) x.rules) := by
  obtain ⟨f, h1, h2, h3⟩ := h
  refine ⟨f, h1, ?_⟩
  cases hb : bk n with
  | none => exact .inl ⟨rfl, h2 n hb⟩
  | some x =>
    obtain ⟨sl, e1, e2⟩ := h3 n x hb
    obtain ⟨us, p1, p2⟩ := e2
    obtain ⟨a, c, e, _⟩ := row_view p1
    exact .inr ⟨x, (a, _, c), rfl, by rw [e1, e]; rfl, by rw [← show sl = Sl.v (a, x.rules.length, c) from e]; exact ⟨us, p1, p2⟩⟩
set_option maxHeartbeats 2000000 in
set_option maxRecDepth 20000 in
theorem may_any (b : Nat) (s : Sto) (r : Roles) (user action name key : Tx) (w : World) (h : KS b s r w) (F : Fine s) (hk : key.length ≤ 1000000) :
    Calls Tryz.prog 56 #[.pointer (some ⟨b, 0, none⟩), str user, str action, str name, str key] w fun e w' => (∃ v, e = .returned v ∧ errIs v (s.may user action name key)) ∧ Below w.heap.size w w' := by
  obtain ⟨uv, lv, mb, mv, h⟩ := h
  have c3 := h.c3
  obtain ⟨f, hf, hcase⟩ := h.bk.find name
  have RF : Hid (∀ (n : Nat) w, Calls Tryz.prog 80 #[.int .i64 (n : Int), .nilIface] w fun e w' => e = .returned (.iface 148 (.agg #[.int .i64 (n : Int), .nilIface])) ∧ w = w') := fun n w => refuse_any n .nilIface (.inl rfl) w
  have R404 : Hid (_) := RF.out 404
  have R403 : Hid (_) := RF.out 403
  have HM : Hid (s.may user action name key = match s.bk name with | none => 404 | some x => if saysP x.rules user action key = 2 ∨ (saysP x.rules user action key = 0 ∧ user ≠ x.owner) then 403 else 200) := rfl
  clear h RF
  rcases hcase with ⟨hn, hfn⟩ | ⟨x, sl, hx, hfx, hp⟩
  · have HL : Hid (lookV true (.agg #[.string ⟨#[]⟩, .string ⟨#[]⟩, .slice none 0 0]) (f (str name)) = .tuple #[.agg #[.string ⟨#[]⟩, .string ⟨#[]⟩, .slice none 0 0], .bool false]) := by show _ = _; rw [hfn]; rfl
    rw [hn] at HM
    clear hfn
    go_enter Tryz.func56, Tryz.ntmps56
    go_wp2_with (first | (at_lookup; refine wpList_look _ rfl _ _ _ _ rfl 9 162 isStr strKeys Tryz.underlying122 mb f rfl hf _ (zeroB _) _ rfl ⟨_, rfl⟩ _ HL.out ?_) | (go_at_call 80; refine (R404.out _).mono ?_; rintro e w' ⟨rfl, rfl⟩))
    go_ret
    exact ⟨⟨_, rfl, by rw [HM.out]; exact .no 404 .nilIface rfl (by decide)⟩, (Below.refl _ _).alloc (Nat.le_refl _) _⟩
  · obtain ⟨sa, sn, sc⟩ := sl
    have HL : Hid (lookV true (.agg #[.string ⟨#[]⟩, .string ⟨#[]⟩, .slice none 0 0]) (f (str name)) = .tuple #[.agg #[str x.owner, str x.policy, .slice sa sn sc], .bool true]) := by show _ = _; rw [hfx]; rfl
    have hfb := F.bk name x hx
    rw [hx] at HM
    simp only at HM
    have b0 : Below w.heap.size w (w.alloc (.cells #[str x.owner, str x.policy, .slice sa sn sc] 162)) := (Below.refl _ _).alloc (Nat.le_refl _) _
    have hp0 : policyAt w (.slice sa sn sc) x.rules := hp.inb.mono (fun g hg => hg.2)
    have SY : Hid (_) := says_any (.slice sa sn sc) x.rules user action key (w.alloc (.cells #[str x.owner, str x.policy, .slice sa sn sc] 162)) (policyIn.below hp0 b0) (by omega) (by omega)
    have hbd := says_bd x.rules user action key
    generalize saysP x.rules user action key = sy at *
    have hlook : ∀ w', w' = w → True := fun _ _ => trivial
    clear hfx hp hp0 hlook
    go_enter Tryz.func56, Tryz.ntmps56
    go_wp2_with (at_lookup; refine wpList_look _ rfl _ _ _ _ rfl 9 162 isStr strKeys Tryz.underlying122 mb f rfl hf _ (zeroB _) _ rfl ⟨_, rfl⟩ _ HL.out ?_)
    refine Calls.mono SY.out ?_
    rintro e w1 ⟨rfl, b1⟩
    have o0 : w1.cell? ⟨w.heap.size, 0, none⟩ = some (str x.owner) := (b1.cell (p := ⟨w.heap.size, 0, none⟩) (by simp)).trans (by simp [go_sem])
    have B1 := below_trans b0 b1
    clear SY HL hf b0 b1
    rcases (show sy = 0 ∨ sy = 1 ∨ sy = 2 by omega) with rfl | rfl | rfl
    · cases hu : (user == x.owner) with
      | true =>
        have HY : Hid (s.may user action name key = 200) := by show _ = _; rw [HM.out, if_neg (by simp; exact eq_of_beq hu)]
        go_wp2
        go_ret
        exact ⟨⟨_, rfl, by rw [HY.out]; exact .ok⟩, B1⟩
      | false =>
        have HY : Hid (s.may user action name key = 403) := by show _ = _; rw [HM.out, if_pos (.inr ⟨rfl, by simpa using hu⟩)]
        go_wp2_with (go_at_call 80; refine (R403.out _).mono ?_; rintro e w' ⟨rfl, rfl⟩)
        go_ret
        exact ⟨⟨_, rfl, by rw [HY.out]; exact .no 403 .nilIface rfl (by decide)⟩, B1⟩
    · have HY : Hid (s.may user action name key = 200) := by show _ = _; rw [HM.out, if_neg (by simp)]
      go_wp2
      go_ret
      exact ⟨⟨_, rfl, by rw [HY.out]; exact .ok⟩, B1⟩
    · have HY : Hid (s.may user action name key = 403) := by show _ = _; rw [HM.out, if_pos (.inl rfl)]
      go_wp2_with (go_at_call 80; refine (R403.out _).mono ?_; rintro e w' ⟨rfl, rfl⟩)
      go_ret
      exact ⟨⟨_, rfl, by rw [HY.out]; exact .no 403 .nilIface rfl (by decide)⟩, B1⟩
end Go.Proofs.YtbllcgibmgbnjaaGreatDoor.P
namespace Go.Proofs.YtbllcgibmgbnjaaGreatDoor.P
open Go.RowKit
open Go.Proofs.YtbllcgibmgbnjaaGreatDoor.C (ret_bool ret_int ret_str)

theorem bfield0 (a b c : Value) (w : World) : (Instr.field 162 (.agg #[a, b, c]) 0).run Tryz.prog w = .ok a w := by kernel_rfl
theorem bfield1 (a b c : Value) (w : World) : (Instr.field 162 (.agg #[a, b, c]) 1).run Tryz.prog w = .ok b w := by kernel_rfl
def Sto.policyOf (s : Sto) (n : Tx) : Tx := match s.bk n with
  | none => []
  | some x => x.policy
set_option maxHeartbeats 2000000 in
set_option maxRecDepth 20000 in
theorem policy_any (b : Nat) (s : Sto) (r : Roles) (name : Tx) (w : World) (h : KS b s r w) :
    Calls Tryz.prog 127 #[.pointer (some ⟨b, 0, none⟩), str name] w fun e w' => (∃ v, e = .returned (.tuple #[str (s.policyOf name), v]) ∧ errIs v (if s.policyOf name = [] then 404 else 200)) ∧ w = w' := by
  obtain ⟨uv, lv, mb, mv, h⟩ := h
  have c3 := h.c3
  obtain ⟨f, hf, hcase⟩ := h.bk.find name
  have R404 : Hid (∀ w, Calls Tryz.prog 80 #[.int .i64 404, .nilIface] w fun e w' => e = .returned (.iface 148 (.agg #[.int .i64 404, .nilIface])) ∧ w = w') := fun w => refuse_any 404 .nilIface (.inl rfl) w
  have HP : Hid (s.policyOf name = match s.bk name with | none => [] | some x => x.policy) := rfl
  clear h
  obtain ⟨o, sl, HL⟩ : ∃ (o : Tx) (sl : Sl), Hid (lookV false (.agg #[.string ⟨#[]⟩, .string ⟨#[]⟩, .slice none 0 0]) (f (str name)) = .agg #[str o, str (s.policyOf name), sl.v]) := by
    rcases hcase with ⟨hn, hfn⟩ | ⟨x, sl, hx, hfx, hp⟩
    · exact ⟨[], (none, 0, 0), by show _ = _; rw [hfn, HP.out, hn]; rfl⟩
    · exact ⟨x.owner, sl, by show _ = _; rw [hfx, HP.out, hx]; rfl⟩
  obtain ⟨sa, sn, sc⟩ := sl
  have B1 := bfield1
  clear hcase HP
  generalize s.policyOf name = p at *
  by_cases hp : p = []
  · subst hp
    go_enter Tryz.func127, Tryz.ntmps127
    go_wp2_with (first | (at_lookup; refine wpList_look _ rfl _ _ _ _ rfl 9 162 isStr strKeys Tryz.underlying122 mb f rfl hf _ (zeroB _) _ rfl ⟨_, rfl⟩ _ HL.out ?_) | (go_at_call 80; refine (R404.out _).mono ?_; rintro e w' ⟨rfl, rfl⟩))
    go_ret2
    exact ⟨⟨_, rfl, .no 404 .nilIface rfl (by decide)⟩, rfl⟩
  · have tp : (p == []) = false := by simpa using hp
    rw [if_neg hp]
    go_enter Tryz.func127, Tryz.ntmps127
    go_wp2_with (at_lookup; refine wpList_look _ rfl _ _ _ _ rfl 9 162 isStr strKeys Tryz.underlying122 mb f rfl hf _ (zeroB _) _ rfl ⟨_, rfl⟩ _ HL.out ?_)
    go_ret2
    exact ⟨⟨_, rfl, .ok⟩, rfl⟩
theorem VMap.find {w : World} {m : Nat} {r : Roles} {vs : Tx → Tx → List Ver} (h : VMap w m r vs) (b k : Tx) : ∃ f, MapIs isTwo w m f ∧ ∃ (sl : Sl) (o : Option Sl), f (keyV b k) = o.map Sl.v ∧ lookV false (.slice none 0 0) (f (keyV b k)) = sl.v ∧ vrow w sl.v (vs b k) ∧ (∀ g, sl.v.ownBlock = some g → r g = .ver b k) ∧ (vs b k ≠ [] → o = some sl) ∧ (vs b k = [] → o = none) := by
  obtain ⟨f, h1, h2, h3⟩ := h
  refine ⟨f, h1, ?_⟩
  by_cases hv : vs b k = []
  · exact ⟨(none, 0, 0), none, h2 b k hv, by rw [h2 b k hv]; rfl, by rw [hv]; exact World.ownsRow_nil _ _ _ _, (fun g e => nomatch e), fun e => absurd hv e, fun _ => rfl⟩
  · obtain ⟨sl, e1, e2, e3⟩ := h3 b k hv
    obtain ⟨a, c, e, _⟩ := vrow.sl e2
    subst e
    exact ⟨(a, _, c), some (a, _, c), e1, by rw [e1]; rfl, e2, e3, fun _ => rfl, fun h => absurd h hv⟩
def verEnd (o : Option Ver) (w : World) (e : Ending) (w' : World) : Prop := Below w.heap.size w w' ∧ match o with
  | some v => e = .returned (.tuple #[.int .i64 (v.num : Int), str v.body, .nilIface])
  | none => e = .returned (.tuple #[.int .i64 0, str [], .iface 148 (.agg #[.int .i64 404, .nilIface])])
theorem verEnd_no {o : Option Ver} {w w' : World} (h : o = none) (hb : Below w.heap.size w w') : verEnd o w (.returned (.tuple #[.int .i64 0, str [], .iface 148 (.agg #[.int .i64 404, .nilIface])])) w' := by subst h; exact ⟨hb, rfl⟩
theorem verEnd_ok {o : Option Ver} {v : Ver} {w w' : World} (h : o = some v) (hb : Below w.heap.size w w') : verEnd o w (.returned (.tuple #[.int .i64 (v.num : Int), str v.body, .nilIface])) w' := by subst h; exact ⟨hb, rfl⟩
theorem find_idx {l : List Ver} {n i : Nat} (h : vIdx l n = some i) : ∃ hi : i < l.length, l.find? (fun v => v.num == n) = some l[i] := by
  unfold vIdx at h
  rw [List.findIdx?_eq_some_iff_getElem] at h
  obtain ⟨hi, h1, h2⟩ := h
  refine ⟨hi, ?_⟩
  rw [List.find?_eq_some_iff_append]
  refine ⟨h1, l.take i, l.drop (i + 1), ?_, fun u hu => ?_⟩
  · rw [← List.drop_eq_getElem_cons hi, List.take_append_drop]
  · rw [List.mem_take_iff_getElem] at hu
    obtain ⟨j, hj, rfl⟩ := hu
    have := h2 j (by omega)
    simpa using this
theorem find_idx_none {l : List Ver} {n : Nat} (h : vIdx l n = none) : l.find? (fun v => v.num == n) = none := by
  rw [List.find?_eq_none]; intro v hv; have := vIdx_none.1 h v hv; simp [this]
/-- Which version is told: its place. -/
def verAt (l : List Ver) (n : Nat) : Option Nat := if n = 0 then (if l = [] then none else some (l.length - 1)) else vIdx l n
def verOf (l : List Ver) : Option Nat → Option Ver
  | none => none
  | some i => l[i]?.bind fun v => if v.mark = true then none else some v
theorem verOf_some (l : List Ver) (i : Nat) : verOf l (some i) = l[i]?.bind fun v => if v.mark = true then none else some v := rfl
theorem verAt_eq (s : Sto) (b k : Tx) (n : Nat) : s.version b k n = verOf (s.vs b k) (verAt (s.vs b k) n) := by
  unfold Sto.version verAt
  by_cases h0 : n = 0
  · rw [if_pos h0, if_pos h0]
    by_cases hl : s.vs b k = []
    · rw [hl]; rfl
    · rw [if_neg hl, List.getLast?_eq_getElem?]
      rw [verOf_some]
      cases h : (s.vs b k)[(s.vs b k).length - 1]? with
      | none => rfl
      | some v => rfl
  · rw [if_neg h0, if_neg h0]
    cases hv : vIdx (s.vs b k) n with
    | none => rw [find_idx_none hv]; rfl
    | some i => obtain ⟨hi, e⟩ := find_idx hv; rw [e, verOf_some, List.getElem?_eq_getElem hi]; rfl
theorem verAt_lt {l : List Ver} {n i : Nat} (h : verAt l n = some i) : i < l.length := by
  unfold verAt at h
  split at h
  · split at h
    · cases h
    · cases h; rename_i h2; cases l with
      | nil => exact absurd rfl h2
      | cons => simp
  · exact (find_idx h).1
set_option maxHeartbeats 4000000 in
set_option maxRecDepth 20000 in
theorem version_any (b : Nat) (s : Sto) (r : Roles) (name key : Tx) (n : Nat) (w : World) (h : KS b s r w) (F : Fine s) :
    Calls Tryz.prog 133 #[.pointer (some ⟨b, 0, none⟩), str name, str key, .int .i64 (n : Int)] w (verEnd (s.version name key n) w) := by
  obtain ⟨uv, lv, mb, mv, h⟩ := h
  have c4 := h.c4
  obtain ⟨f, hf, sl, o, _, hlk, hrow, _⟩ := h.vs.find name key
  have hfv := (F.vs name key).1
  have HFV : Hid (∀ v ∈ s.vs name key, v.body.length ≤ 100000 ∧ v.num ≤ s.last) := (F.vs name key).2
  have hflog := F.log; have hflast := F.last
  have HV : Hid (s.version name key n = verOf (s.vs name key) (verAt (s.vs name key) n)) := verAt_eq s name key n
  obtain ⟨sa, sn, sc⟩ := sl
  have HLK : Hid (lookV false (.slice none 0 0) (f (keyV name key)) = .slice sa sn sc) := hlk
  have R404 : Hid (∀ w, Calls Tryz.prog 80 #[.int .i64 404, .nilIface] w fun e w' => e = .returned (.iface 148 (.agg #[.int .i64 404, .nilIface])) ∧ w = w') := fun w => refuse_any 404 .nilIface (.inl rfl) w
  have IX : Hid (_) := indexOf_any n (.slice sa sn sc) (s.vs name key) w hrow (by omega)
  have hsl : sn = (s.vs name key).length ∧ sn ≤ sc := by obtain ⟨a, c, e, hc⟩ := vrow.sl hrow; cases e; exact ⟨rfl, hc⟩
  obtain ⟨rfl, hcap⟩ := hsl
  have HR : Hid (vrow w (.slice sa (s.vs name key).length sc) (s.vs name key)) := hrow
  have HAT : Hid (verAt (s.vs name key) n = if n = 0 then (if s.vs name key = [] then none else some ((s.vs name key).length - 1)) else vIdx (s.vs name key) n) := rfl
  have HLT := @verAt_lt (s.vs name key) n
  clear h hlk hrow F
  generalize s.vs name key = l at *
  have hll : l.length ≤ 100000 := by omega
  go_enter Tryz.func133, Tryz.ntmps133
  go_wp2_with (at_lookup; refine wpList_look _ rfl _ _ _ _ rfl 289 290 isTwo placeKeys Tryz.underlying123 mv f rfl hf _ (zeroV _) _ rfl ⟨_, _, rfl⟩ _ HLK.out ?_)
  refine Calls.mono IX.out ?_
  rintro e w1 ⟨rfl, b1⟩
  clear IX HLK hf
  have hsz1 := b1.size
  -- what is told once the place is known
  have NO : Hid (verAt l n = none → s.version name key n = none) := fun h => by rw [HV.out, h]; rfl
  have YES : Hid (∀ i (hi : i < l.length), verAt l n = some i → s.version name key n = if l[i].mark = true then none else some l[i]) := fun i hi h => by rw [HV.out, h, verOf_some, List.getElem?_eq_getElem hi]; rfl
  by_cases h0 : n = 0
  · subst h0
    rw [if_pos rfl] at HAT
    by_cases hl0 : l = []
    · have HY : Hid (s.version name key 0 = none) := NO.out (by rw [HAT.out, if_pos hl0])
      subst hl0
      clear HV HAT NO YES HLT HR
      go_wp2_with (go_at_call 80; refine (R404.out _).mono ?_; rintro e w' ⟨rfl, rfl⟩)
      go_ret3
      exact verEnd_no HY.out b1
    · have hpos : 0 < l.length := List.length_pos_iff.2 hl0
      have hi : l.length - 1 < l.length := by omega
      obtain ⟨k, hk⟩ : ∃ k : Nat, l.length = k + 1 := ⟨l.length - 1, by omega⟩
      replace hi : k < l.length := by omega
      have HAK : Hid (verAt l 0 = some k) := by show _ = _; rw [HAT.out, if_neg hl0, hk]; rfl
      obtain ⟨g, rfl, hg, q0, q1, q2⟩ := (vrow.below HR.out b1).at hi
      rw [hk]
      have hcap2 : k + 1 ≤ sc := by omega
      have hll2 : k + 1 ≤ 100000 := by omega
      have hv := (HFV.out l[k] (List.getElem_mem hi)).2
      have HV2 : Hid (s.version name key 0 = if l[k].mark = true then none else some l[k]) := YES.out k hi HAK.out
      generalize l[k] = vv at *
      obtain ⟨vn, vm, vb⟩ := vv
      dsimp only at q0 q1 q2 hv HV2
      clear HV HAT NO YES HLT HR HAK
      cases vm with
      | true =>
        go_wp2_with (go_at_call 80; refine (R404.out _).mono ?_; rintro e w' ⟨rfl, rfl⟩)
        go_ret3
        exact verEnd_no (by rw [HV2.out]; rfl) b1
      | false =>
        go_wp2_with fail
        go_region
        all_goals go_wp2
        all_goals go_ret3
        all_goals exact verEnd_ok (v := ⟨vn, false, vb⟩) (by rw [HV2.out]; rfl) b1.drew
  · have t0 : ((n : Int) == 0) = false := by simp; omega
    rw [if_neg h0] at HAT
    cases hix : vIdx l n with
    | none =>
      have HY : Hid (s.version name key n = none) := NO.out (by rw [HAT.out, hix])
      clear HV HAT NO YES HLT HR
      dsimp only [vIdxI]
      go_wp2_with (go_at_call 80; refine (R404.out _).mono ?_; rintro e w' ⟨rfl, rfl⟩)
      go_ret3
      exact verEnd_no HY.out b1
    | some i =>
      have HAK : Hid (verAt l n = some i) := by show _ = _; rw [HAT.out, hix]
      have hi := HLT HAK.out
      obtain ⟨g, rfl, hg, q0, q1, q2⟩ := (vrow.below HR.out b1).at hi
      dsimp only [vIdxI]
      have hv := (HFV.out l[i] (List.getElem_mem hi)).2
      have HV2 : Hid (s.version name key n = if l[i].mark = true then none else some l[i]) := YES.out i hi HAK.out
      generalize l[i] = vv at *
      obtain ⟨vn, vm, vb⟩ := vv
      dsimp only at q0 q1 q2 hv HV2
      clear HV HAT NO YES HLT HR HAK
      cases vm with
      | true =>
        go_wp2_with (go_at_call 80; refine (R404.out _).mono ?_; rintro e w' ⟨rfl, rfl⟩)
        go_ret3
        exact verEnd_no (by rw [HV2.out]; rfl) b1
      | false =>
        go_wp2_with fail
        go_region
        all_goals go_wp2
        all_goals go_ret3
        all_goals exact verEnd_ok (v := ⟨vn, false, vb⟩) (by rw [HV2.out]; rfl) b1.drew
end Go.Proofs.YtbllcgibmgbnjaaGreatDoor.P
namespace Go.Proofs.YtbllcgibmgbnjaaGreatDoor.P
open Go.RowKit
open Go.Proofs.YtbllcgibmgbnjaaGreatDoor.C (ret_bool ret_int ret_str)

theorem str_inj {a b : Tx} (h : str a = str b) : a = b := by
  simp only [str, Value.string.injEq, ByteArray.mk.injEq] at h
  exact List.toArray_inj h
theorem keyV_inj {a b c d : Tx} (h : keyV a b = keyV c d) : a = c ∧ b = d := by
  simp only [keyV, Value.agg.injEq, Array.mk.injEq, List.cons.injEq] at h
  exact ⟨str_inj h.1, str_inj h.2.1⟩
/-- What a function of keys says of buckets. -/
def BF (w : World) (r : Roles) (f : Value → Option Value) (bk : Tx → Option Bkt) : Prop :=
  (∀ n, bk n = none → f (str n) = none) ∧ (∀ n x, bk n = some x → ∃ sl, f (str n) = some (bktV x sl) ∧ policyIn w (fun g => r g = .ro) sl x.rules)
def VF (w : World) (r : Roles) (f : Value → Option Value) (vs : Tx → Tx → List Ver) : Prop :=
  (∀ b k, vs b k = [] → f (keyV b k) = none) ∧ (∀ b k, vs b k ≠ [] → ∃ sl, f (keyV b k) = some sl ∧ vrow w sl (vs b k) ∧ ∀ g, sl.ownBlock = some g → r g = .ver b k)
theorem BF.kept {S : Nat → Prop} {w w' : World} {r : Roles} {f : Value → Option Value} {bk : Tx → Option Bkt} (h : BF w r f bk) (k : Kept S w w') (hr : ∀ g, r g = .ro → ¬ S g) : BF w' r f bk :=
  ⟨h.1, fun n x e => by obtain ⟨sl, e1, e2⟩ := h.2 n x e; exact ⟨sl, e1, e2.kept k hr⟩⟩
theorem BF.roles {w : World} {r r' : Roles} {f : Value → Option Value} {bk : Tx → Option Bkt} (h : BF w r f bk) (hr : ∀ g, r g = .ro → r' g = .ro) : BF w r' f bk :=
  ⟨h.1, fun n x e => by obtain ⟨sl, e1, e2⟩ := h.2 n x e; exact ⟨sl, e1, e2.mono hr⟩⟩
theorem BF.put {w : World} {r : Roles} {f g : Value → Option Value} {bk : Tx → Option Bkt} (h : BF w r f bk) {n : Tx} {x : Bkt} {sl : Value} (hg : g (str n) = some (bktV x sl)) (ho : ∀ v, v ≠ str n → g v = f v) (hp : policyIn w (fun g => r g = .ro) sl x.rules) : BF w r g (fun m => if m = n then some x else bk m) := by
  refine ⟨fun m hm => ?_, fun m y hm => ?_⟩
  · dsimp only at hm
    by_cases e : m = n
    · rw [if_pos e] at hm; cases hm
    · rw [if_neg e] at hm
      rw [ho _ (fun h => e (str_inj h))]; exact h.1 m hm
  · dsimp only at hm
    by_cases e : m = n
    · rw [if_pos e] at hm; cases hm; rw [e]; exact ⟨sl, hg, hp⟩
    · rw [if_neg e] at hm
      obtain ⟨sl', e1, e2⟩ := h.2 m y hm
      exact ⟨sl', by rw [ho _ (fun h => e (str_inj h))]; exact e1, e2⟩
theorem VF.kept {S : Nat → Prop} {w w' : World} {r : Roles} {f : Value → Option Value} {vs : Tx → Tx → List Ver} (h : VF w r f vs) (k : Kept S w w') (hr : ∀ g b j, r g = .ver b j → ¬ S g) : VF w' r f vs :=
  ⟨h.1, fun b j e => by obtain ⟨sl, e1, e2, e3⟩ := h.2 b j e; exact ⟨sl, e1, k.row e2 (fun g hg => hr g b j (e3 g hg)), e3⟩⟩
theorem VF.roles {w : World} {r r' : Roles} {f : Value → Option Value} {vs : Tx → Tx → List Ver} (h : VF w r f vs) (hr : ∀ g b k, r g = .ver b k → r' g = .ver b k) : VF w r' f vs :=
  ⟨h.1, fun b k e => by obtain ⟨sl, e1, e2, e3⟩ := h.2 b k e; exact ⟨sl, e1, e2, fun g hg => hr g b k (e3 g hg)⟩⟩
/-- The way back: called later, with nothing done but to blocks made since or to elder ones that are not the store's, it leaves what was kept ahead of the change. -/
def Undo (b : Nat) (s : Sto) (r : Roles) (w : World) (lo : Nat) (F : Nat) (caps : Array Value) : Prop :=
  ∀ W, Kept (fun g => g < lo ∧ r g = .none) w W → Calls Tryz.prog F caps W fun e W' => e = .returned (.tuple #[]) ∧ KS b s r W' ∧ Step r W r W'
def begPost (b : Nat) (s : Sto) (r : Roles) (w : World) (x : Except Nat Sto) (e : Ending) (w' : World) : Prop := match x with
  | .error n => (∃ c : Value, c.oneCell' = true ∧ e = .returned (.tuple #[.nilFunc, .iface 148 (.agg #[.int .i64 (n : Int), c])])) ∧ Below w.heap.size w w'
  | .ok t => ∃ F caps r', e = .returned (.tuple #[.func (.func F) #[] caps, .nilIface]) ∧ (∀ args w, (callFunc F args).run Tryz.prog w = .ok (.enter F args) w) ∧ KS b t r' w' ∧ Step r w r' w' ∧ Undo b s r' w' w.heap.size F caps
theorem begPost_no {b : Nat} {s : Sto} {r : Roles} {w w' : World} {x : Except Nat Sto} {n : Nat} {c : Value} (h : x = .error n) (hc : c.oneCell' = true) (hb : Below w.heap.size w w') : begPost b s r w x (.returned (.tuple #[.nilFunc, .iface 148 (.agg #[.int .i64 (n : Int), c])])) w' := by
  subst h; exact ⟨⟨c, hc, rfl⟩, hb⟩
/-- Any world in which the map of buckets alone has turned. -/
theorem KSv.putB {b : Nat} {s : Sto} {r : Roles} {uv lv : Value} {mb mv : Nat} {W W' : World} {f' : Value → Option Value} {bk' : Tx → Option Bkt} (hW : KSv b s r uv lv mb mv W) (k : Kept (· = mb) W W') (hM : MapIs isStr W' mb f') (hB : BF W' r f' bk') : KSv b { s with bk := bk' } r uv lv mb mv W' := by
  have nb : ∀ {g}, r g ≠ .bks → ¬ g = mb := fun h e => h (by rw [e]; exact hW.rk)
  have hbb : b < W.heap.size := hW.dom b (by rw [hW.rb]; simp)
  have nbb : ¬ b = mb := nb (by rw [hW.rb]; simp)
  exact { c0 := k.cell hW.c0 nbb, c1 := k.cell hW.c1 nbb, c2 := k.cell hW.c2 nbb, c3 := k.cell hW.c3 nbb, c4 := k.cell hW.c4 nbb, c5 := k.cell hW.c5 nbb, fz := fun j => k.frozen (a := ⟨b, j, none⟩) hbb (hW.fz j) nbb, rb := hW.rb, us := k.row hW.us (fun g e => nb (by rw [hW.ur g e]; simp)), ur := hW.ur, lg := k.row hW.lg (fun g e => nb (by rw [hW.lr g e]; simp)), lr := hW.lr,
          bk := ⟨f', hM, hB.1, hB.2⟩, rk := hW.rk, vs := hW.vs.kept k (nb (by rw [hW.rv]; simp)) (fun g _ _ e => nb (by rw [e]; simp)), rv := hW.rv, dom := fun g e => Nat.lt_of_lt_of_le (hW.dom g e) k.size }
/-- More roles, more blocks. -/
theorem KSv.roles {b : Nat} {s : Sto} {r r1 : Roles} {uv lv : Value} {mb mv : Nat} {w w1 : World} (h : KSv b s r uv lv mb mv w) (hb1 : Below w.heap.size w w1) (hr1 : ∀ g, r g ≠ .none → r1 g = r g) (hd1 : ∀ g, r1 g ≠ .none → g < w1.heap.size) : KSv b s r1 uv lv mb mv w1 := by
  have h0 := h.below hb1
  have E : ∀ {g}, r g ≠ .none → r1 g = r g := fun hn => hr1 _ hn
  obtain ⟨f, fm, f1, f2⟩ := h0.bk
  obtain ⟨v, vm, v1, v2⟩ := h0.vs
  exact { c0 := h0.c0, c1 := h0.c1, c2 := h0.c2, c3 := h0.c3, c4 := h0.c4, c5 := h0.c5, fz := h0.fz, rb := by rw [E (by rw [h.rb]; simp)]; exact h.rb, us := h0.us, ur := fun g e => by rw [E (by rw [h.ur g e]; simp)]; exact h.ur g e, lg := h0.lg, lr := fun g e => by rw [E (by rw [h.lr g e]; simp)]; exact h.lr g e,
          bk := ⟨f, fm, BF.roles ⟨f1, f2⟩ (fun g e => by rw [E (by rw [e]; simp)]; exact e)⟩, rk := by rw [E (by rw [h.rk]; simp)]; exact h.rk, vs := ⟨v, vm, VF.roles ⟨v1, v2⟩ (fun g _ _ e => by rw [E (by rw [e]; simp)]; exact e)⟩, rv := by rw [E (by rw [h.rv]; simp)]; exact h.rv, dom := hd1 }
/-- A bucket set, from what 'set' answers. -/
theorem setB_beg {b : Nat} {s : Sto} {r : Roles} {uv lv : Value} {mb mv : Nat} {w w1 w2 : World} (h : KSv b s r uv lv mb mv w) {r1 : Roles} (hb1 : Below w.heap.size w w1) (hr1 : ∀ g, r g ≠ .none → r1 g = r g) (hd1 : ∀ g, r1 g ≠ .none → g < w1.heap.size) (hn1 : ∀ g, g < w.heap.size → r1 g ≠ .none → r g ≠ .none)
    {f : Value → Option Value} (hm : MapIs isStr w mb f) (hf : BF w r f s.bk) {n : Tx} {x : Bkt} {sl : Value} (hp : policyIn w1 (fun g => r1 g = .ro) sl x.rules) {F : Nat} (_hF : F = 306) {e : Ending}
    (hs : setPost F mb (str n) (bktV x sl) isStr f w1 e w2) : ∃ caps, e = .returned (.func (.func F) #[] caps) ∧ KS b (s.setBk n x) r1 w2 ∧ Step r w r1 w2 ∧ Undo b s r1 w2 w.heap.size F caps := by
  obtain ⟨caps, rfl, ⟨g, hm2, hg1, hg2⟩, k2, undo⟩ := hs
  have h1 : KSv b s r1 uv lv mb mv w1 := h.roles hb1 hr1 hd1
  have hf1 : BF w1 r1 f s.bk := (hf.kept (Kept.of_below hb1) (fun g e hg => by have := h.dom g (by rw [e]; simp); omega)).roles (fun g e => by rw [hr1 g (by rw [e]; simp)]; exact e)
  have ro : ∀ g, r1 g = .ro → ¬ g = mb := fun g e h => by rw [h, h1.rk] at e; cases e
  have hf2 : BF w2 r1 f s.bk := hf1.kept k2 ro
  have K2 : KSv b (s.setBk n x) r1 uv lv mb mv w2 := h1.putB k2 hm2 (hf2.put hg1 hg2 (hp.kept k2 ro))
  have st : Step r w r1 w2 := ⟨((Kept.of_below hb1).mono (T := fun g => r g ≠ .none) (fun g hg e => by omega)).trans k2 (fun g hg e => by subst e; rw [h.rk]; simp), hn1⟩
  refine ⟨caps, rfl, ⟨_, _, _, _, K2⟩, st, fun W hW => ?_⟩
  have nn : ∀ q, r1 q ≠ .none → ¬ (q < w.heap.size ∧ r1 q = .none) := fun q h1 h2 => h1 h2.2
  have K2W := K2.kept hW nn
  refine Calls.mono (undo W g (hW.mono (fun j hj e => by have := e.1; have := hb1.size; omega)) (hm2.kept hW (nn mb (by rw [h1.rk]; simp)))) ?_
  rintro e W' ⟨rfl, ⟨f', hm', hf1', hf2'⟩, k'⟩
  have ff : ∀ v, f' v = f v := fun v => by
    by_cases hv : v = str n
    · rw [hv]; exact hf1'
    · rw [hf2' v hv]; exact hg2 v hv
  have hB' : BF W' r1 f' s.bk := by
    have : f' = f := funext ff
    rw [this]
    exact ((hf2.kept hW (fun g e => nn g (by rw [e]; simp))).kept k' ro)
  have KB : KSv b { s.setBk n x with bk := s.bk } r1 uv lv mb mv W' := K2W.putB k' hm' hB'
  exact ⟨rfl, ⟨_, _, _, _, KB⟩, Step.of_kept k' (fun g e => by rw [e, h1.rk]; simp)⟩
end Go.Proofs.YtbllcgibmgbnjaaGreatDoor.P
namespace Go.Proofs.YtbllcgibmgbnjaaGreatDoor.P
open Go.RowKit
open Go.Proofs.YtbllcgibmgbnjaaGreatDoor.C (ret_bool ret_int ret_str)

theorem begPost_ok {b : Nat} {s t : Sto} {r r' : Roles} {w w' : World} {x : Except Nat Sto} {F : Nat} {caps : Array Value} (h : x = .ok t) (hF : ∀ args w, (callFunc F args).run Tryz.prog w = .ok (.enter F args) w) (hk : KS b t r' w') (hs : Step r w r' w') (hu : Undo b s r' w' w.heap.size F caps) : begPost b s r w x (.returned (.tuple #[.func (.func F) #[] caps, .nilIface])) w' := by
  subst h; exact ⟨F, caps, r', rfl, hF, hk, hs, hu⟩
theorem BMap.find2 {w : World} {m : Nat} {r : Roles} {bk : Tx → Option Bkt} (h : BMap w m r bk) (n : Tx) : ∃ f, MapIs isStr w m f ∧ BF w r f bk ∧ ((bk n = none ∧ f (str n) = none) ∨ ∃ x sl, bk n = some x ∧ f (str n) = some (.agg #[str x.owner, str x.policy, Sl.v sl]) ∧ policyIn w (fun g => r g = .ro) (Sl.v sl) x.rules) := by
  obtain ⟨f, h1, h2, h3⟩ := h
  refine ⟨f, h1, ⟨h2, h3⟩, ?_⟩
  cases hb : bk n with
  | none => exact .inl ⟨rfl, h2 n hb⟩
  | some x =>
    obtain ⟨sl, e1, e2⟩ := h3 n x hb
    obtain ⟨us, p1, p2⟩ := e2
    obtain ⟨a, c, e, _⟩ := row_view p1
    exact .inr ⟨x, (a, _, c), rfl, by rw [e1, e]; rfl, by rw [← show sl = Sl.v (a, x.rules.length, c) from e]; exact ⟨us, p1, p2⟩⟩
theorem TR.of {w : World} {v : Value} {l : List Tx} (h : srow w 0 v l) : ∃ a c, v = .slice a l.length c ∧ TR a l w := by
  obtain ⟨a, c, e, hc, hg⟩ := row_view h
  refine ⟨a, c, e, ⟨fun k hk => ?_⟩⟩
  obtain ⟨g, rfl, c0, hg⟩ := hg k (str l[k]) (by simp [hk])
  exact ⟨g, 0, rfl, hg, by simpa using c0⟩
set_option maxHeartbeats 4000000 in
set_option maxRecDepth 20000 in
theorem mkBegin_any (b : Nat) (s : Sto) (r : Roles) (n o : Tx) (w : World) (h : KS b s r w) (_F : Fine s) (hn : n.length ≤ 1000000) (hu : s.users.length ≤ 1000000) :
    Calls Tryz.prog 302 #[.agg #[str n, str o], .pointer (some ⟨b, 0, none⟩)] w (begPost b s r w (s.begin (.mk n o))) := by
  obtain ⟨uv, lv, mb, mv, h⟩ := h
  have c0 := h.c0
  have hb := h.blt
  have hus := h.us
  have HBG : Hid (s.begin (.mk n o) = if bktP n = true ∧ s.users.contains o = true then (match s.bk n with
      | none => .ok (s.setBk n ⟨o, [], []⟩)
      | some _ => .error 409) else .error 400) := rfl
  have IB : Hid (_) := fun w => isBucket_any n w hn
  have R400 : Hid (∀ w, Calls Tryz.prog 80 #[.int .i64 400, .nilIface] w fun e w' => e = .returned (.iface 148 (.agg #[.int .i64 400, .nilIface])) ∧ w = w') := fun w => refuse_any 400 .nilIface (.inl rfl) w
  have R409 : Hid (∀ w, Calls Tryz.prog 80 #[.int .i64 409, .nilIface] w fun e w' => e = .returned (.iface 148 (.agg #[.int .i64 409, .nilIface])) ∧ w = w') := fun w => refuse_any 409 .nilIface (.inl rfl) w
  obtain ⟨W0, hW0⟩ : ∃ W0, W0 = w.alloc (.cells #[str n, str o] 167) := ⟨_, rfl⟩
  have B0 : Below w.heap.size w W0 := by rw [hW0]; exact (Below.refl _ _).alloc (Nat.le_refl _) _
  have h0 := h.below B0
  have S0 : W0.heap.size = w.heap.size + 1 := by rw [hW0]; simp
  have x0 := h0.c0
  have y0 : W0.cell? ⟨w.heap.size, 0, none⟩ = some (str n) := by rw [hW0]; simp [go_sem]
  have y1 : W0.cell? ⟨w.heap.size, 1, none⟩ = some (str o) := by rw [hW0]; simp [go_sem]
  have ZB := zeroB
  obtain ⟨ua, uc, rfl, htr⟩ := TR.of h0.us
  have CT : Hid (∀ w', Below W0.heap.size W0 w' → _) := fun w' hw' => contains_v ua uc s.users o w' (htr.below hw') hu
  have xw : W0.cell? ⟨b, 0, none⟩ = some (.slice ua s.users.length uc) ∧ W0.cell? ⟨w.heap.size, 0, none⟩ = some (str n) ∧ W0.cell? ⟨w.heap.size, 1, none⟩ = some (str o) := ⟨x0, y0, y1⟩
  have xd : W0.drew.cell? ⟨b, 0, none⟩ = some (.slice ua s.users.length uc) ∧ W0.drew.cell? ⟨w.heap.size, 0, none⟩ = some (str n) ∧ W0.drew.cell? ⟨w.heap.size, 1, none⟩ = some (str o) := ⟨x0, y0, y1⟩
  have HW0 : Hid (W0 = w.alloc (.cells #[str n, str o] 167)) := hW0
  clear hW0
  generalize bktP n = bp at *
  generalize s.users.contains o = ct at *
  have n1 : ¬ b = w.heap.size := by omega
  cases bp with
  | false =>
    rw [if_neg (by simp)] at HBG
    clear h h0
    go_enter Tryz.func302, Tryz.ntmps302
    go_wp2_with fail
    rw [← HW0.out]
    go_quiet ((go_at_call 122; exact Calls.quiet_of_same ((IB.out _).mono (fun e w' h => ⟨h.1, h.2.symm⟩))))
    all_goals go_wp2_with (go_at_call 80; refine (R400.out _).mono ?_; rintro e w' ⟨rfl, rfl⟩)
    all_goals go_ret2
    all_goals exact begPost_no HBG.out rfl (below_drewN B0 _)
  | true =>
    have hmb : mb < w.heap.size := h.dom mb (by rw [h.rk]; simp)
    go_enter Tryz.func302, Tryz.ntmps302
    go_wp2_with fail
    rw [← HW0.out]
    go_cut [21] from 8 to 20 (fun v wx => v = .bool (!ct) ∧ Below W0.heap.size W0 wx)
    case first =>
      go_region_with (first | (go_at_call 122; refine (IB.out _).mono ?_; rintro e w' ⟨rfl, rfl⟩) | (go_at_call 215; with_reducible refine Calls.mono (CT.out W0.drew (below_drew W0)) ?_; rintro e w1 ⟨rfl, B1⟩))
      all_goals go_wp2_with fail
      all_goals go_meet
      all_goals exact ⟨rfl, below_trans (below_drew W0) B1⟩
    case rest =>
      obtain ⟨rfl, B1⟩ := hcut
      clear CT xw xd IB
      have hc1 := h0.below B1
      have Bc := below_trans B0 B1
      have lz : w.heap.size < W0.heap.size := by omega
      have z0 : wc.cell? ⟨w.heap.size, 0, none⟩ = some (str n) := (B1.cell (p := ⟨w.heap.size, 0, none⟩) lz).trans y0
      have z1 : wc.cell? ⟨w.heap.size, 1, none⟩ = some (str o) := (B1.cell (p := ⟨w.heap.size, 1, none⟩) lz).trans y1
      have c3 := hc1.c3
      obtain ⟨f, hf, hbf, hcase⟩ := h.bk.find2 n
      have HF : Hid (BF w r f s.bk) := hbf
      have hfc : MapIs isStr wc mb f := hf.below Bc
      clear y0 y1 x0 hc1 B1
      cases ct with
      | false =>
        rw [if_neg (by simp)] at HBG
        clear h h0
        go_wp2_with (go_at_call 80; refine (R400.out _).mono ?_; rintro e w' ⟨rfl, rfl⟩)
        go_ret2
        exact begPost_no HBG.out rfl Bc
      | true =>
        rw [if_pos (by simp)] at HBG
        rcases hcase with ⟨hn, hfn⟩ | ⟨x, sl, hx, hfx, hp⟩
        · rw [hn] at HBG
          have LA : (Instr.lookup 122 (.map (some mb)) (str n) true).run Tryz.prog wc.drew = .ok (.tuple #[.agg #[.string ⟨#[]⟩, .string ⟨#[]⟩, .slice none 0 0], .bool false]) wc.drew := by
            rw [hfc.drew.look strKeys Tryz.underlying122 true (zeroB _) ⟨_, rfl⟩, hfn]; rfl
          have LB : ∀ ob, (Instr.lookup 122 (.map (some mb)) (str n) true).run Tryz.prog (wc.alloc ob).drew = .ok (.tuple #[.agg #[.string ⟨#[]⟩, .string ⟨#[]⟩, .slice none 0 0], .bool false]) (wc.alloc ob).drew := fun ob => by
            rw [(hfc.alloc ob).drew.look strKeys Tryz.underlying122 true (zeroB _) ⟨_, rfl⟩, hfn]; rfl
          have za : ∀ ob, (wc.alloc ob).cell? ⟨w.heap.size, 0, none⟩ = some (str n) := fun ob => cell_alloc z0 ob
          have zb : ∀ ob, (wc.alloc ob).cell? ⟨w.heap.size, 1, none⟩ = some (str o) := fun ob => cell_alloc z1 ob
          have zc : ∀ ob, (wc.alloc ob).cell? ⟨b, 3, none⟩ = some (.map (some mb)) := fun ob => cell_alloc c3 ob
          have SB : Hid (_) := fun w' hw => setB_any mb n o [] (none, 0, 0) f none w' hw (by rw [hfn]; rfl)
          have HH : Hid (KSv b s r (.slice ua s.users.length uc) lv mb mv w) := h
          have HM : Hid (MapIs isStr w mb f) := hf
          have HMC : Hid (MapIs isStr wc mb f) := hfc
          clear h h0 hf hfc hfn
          go_wp2_with fail
          go_region
          go_wp2_with fail
          have BW : Below w.heap.size w (wc.alloc (.cells #[.string ⟨#[]⟩, .string ⟨#[]⟩, .slice none 0 0] 162)).drew.drew := ((Bc.alloc Bc.size _).drew).drew
          have SB2 : Hid (Calls Tryz.prog 304 #[.map (some mb), str n, .agg #[str o, .string ⟨#[]⟩, .slice none 0 0]] (wc.alloc (.cells #[.string ⟨#[]⟩, .string ⟨#[]⟩, .slice none 0 0] 162)).drew.drew _) := SB.out _ (HMC.out.alloc _).drew.drew
          clear SB
          go_region_with (go_at_call 304; with_reducible refine Calls.mono SB2.out ?_; intro e w5 hs; obtain ⟨caps, rfl, K2, st, un⟩ := setB_beg (x := ⟨o, [], []⟩) HH.out BW (fun _ _ => rfl) (fun g e => Nat.lt_of_lt_of_le (HH.out.dom g e) BW.size) (fun _ _ h => h) HM.out HF.out (policyIn_nil _ _) rfl hs)
          all_goals go_wp2_with fail
          all_goals go_ret2
          all_goals exact begPost_ok HBG.out (enters_of Tryz.func306 (by kernel_rfl) rfl) K2 st un
        · rw [hx] at HBG
          obtain ⟨sa, sn, sc⟩ := sl
          have LA : (Instr.lookup 122 (.map (some mb)) (str n) true).run Tryz.prog wc.drew = .ok (.tuple #[.agg #[str x.owner, str x.policy, .slice sa sn sc], .bool true]) wc.drew := by
            rw [hfc.drew.look strKeys Tryz.underlying122 true (zeroB _) ⟨_, rfl⟩, hfx]; rfl
          have LB : ∀ ob, (Instr.lookup 122 (.map (some mb)) (str n) true).run Tryz.prog (wc.alloc ob).drew = .ok (.tuple #[.agg #[str x.owner, str x.policy, .slice sa sn sc], .bool true]) (wc.alloc ob).drew := fun ob => by
            rw [(hfc.alloc ob).drew.look strKeys Tryz.underlying122 true (zeroB _) ⟨_, rfl⟩, hfx]; rfl
          have za : ∀ ob, (wc.alloc ob).cell? ⟨w.heap.size, 0, none⟩ = some (str n) := fun ob => cell_alloc z0 ob
          have zc : ∀ ob, (wc.alloc ob).cell? ⟨b, 3, none⟩ = some (.map (some mb)) := fun ob => cell_alloc c3 ob
          clear h h0 hf hfc hfx
          go_wp2_with fail
          go_region
          all_goals go_wp2_with (go_at_call 80; refine (R409.out _).mono ?_; rintro e w' ⟨rfl, rfl⟩)
          all_goals go_ret2
          all_goals exact begPost_no HBG.out rfl (Bc.alloc Bc.size _).drew
end Go.Proofs.YtbllcgibmgbnjaaGreatDoor.P
