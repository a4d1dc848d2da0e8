/-
  THE DOCUMENT's POLICIES: what a rule, what a policy says.
-/
import Derived.Test.YtinnliapfdpfpaaDoorQMem
import Derived.Test.YtinnliapfdpfpaaDoorQFits
import Derived.Test.YtinnliapfdpfpaaDoorPSay2
namespace Go.Proofs.YtinnliapfdpfpaaDoor.P
open Go.RowKit
open Go.Proofs.YtinnliapfdpfpaaDoor.C (ret_bool ret_int ret_str)

abbrev QuadQ := Bool × Value × Value × Value
/-- How a rule of the document's lies in memory. -/
structure relQ (w : World) (P : Nat → Prop) (q : QuadQ) (r : RuleP) : Prop where
  says : q.1 = r.deny
  who : srow w 0 q.2.1 r.who
  act : srow w 0 q.2.2.1 r.act
  on : srow w 0 q.2.2.2 r.on
  pw : ∀ g, q.2.1.ownBlock = some g → P g
  pa : ∀ g, q.2.2.1.ownBlock = some g → P g
  po : ∀ g, q.2.2.2.ownBlock = some g → P g
  sz : r.who.length ≤ 4 ∧ r.act.length ≤ 4 ∧ r.on.length ≤ 4 ∧ ∀ y ∈ r.on, y.length ≤ 4000
theorem relQ.mono {w : World} {P Q : Nat → Prop} {q : QuadQ} {r : RuleP} (h : relQ w P q r) (hq : ∀ g, P g → Q g) : relQ w Q q r :=
  ⟨h.says, h.who, h.act, h.on, fun g e => hq g (h.pw g e), fun g e => hq g (h.pa g e), fun g e => hq g (h.po g e), h.sz⟩
theorem relQ.kept {w w' : World} {S P : Nat → Prop} {q : QuadQ} {r : RuleP} (h : relQ w P q r) (k : Kept S w w') (hq : ∀ g, P g → ¬ S g) : relQ w' P q r :=
  ⟨h.says, k.row h.who (fun g e => hq g (h.pw g e)), k.row h.act (fun g e => hq g (h.pa g e)), k.row h.on (fun g e => hq g (h.po g e)), h.pw, h.pa, h.po, h.sz⟩
theorem relQ.inb {w : World} {P : Nat → Prop} {q : QuadQ} {r : RuleP} (h : relQ w P q r) : relQ w (fun g => P g ∧ g < w.heap.size) q r :=
  ⟨h.says, h.who, h.act, h.on, fun g e => ⟨h.pw g e, (World.ownsRow.lt h.who g e).2⟩, fun g e => ⟨h.pa g e, (World.ownsRow.lt h.act g e).2⟩, fun g e => ⟨h.po g e, (World.ownsRow.lt h.on g e).2⟩, h.sz⟩
theorem relQ.slices {w : World} {P : Nat → Prop} {q : QuadQ} {r : RuleP} (h : relQ w P q r) : ∃ x a1 n1 c1 a2 n2 c2 a3 n3 c3, q = (x, .slice a1 n1 c1, .slice a2 n2 c2, .slice a3 n3 c3) := by
  obtain ⟨x, v1, v2, v3⟩ := q
  obtain ⟨a1, n1, c1, e1⟩ := srow_slice h.who
  obtain ⟨a2, n2, c2, e2⟩ := srow_slice h.act
  obtain ⟨a3, n3, c3, e3⟩ := srow_slice h.on
  simp at e1 e2 e3
  exact ⟨x, a1, n1, c1, a2, n2, c2, a3, n3, c3, by rw [e1, e2, e3]⟩
theorem named_is (v : Value) (l : List (List UInt8)) (s : List UInt8) (x : Bool) (w : World) (h : srow w 0 v l) (hl : l.length ≤ 1000000) (hx : l.contains s = x) :
    Calls Tryd.prog 90 #[v, str s] w fun e w' => e = .returned (.bool x) ∧ w = w' := by
  have e : l.any (fun y => y == s) = x := by
    rw [← hx, contains_any']
    congr 1; funext y; rw [Bool.eq_iff_iff]; simp only [beq_iff_eq]; exact eq_comm
  have := named_any v l s w h hl
  rw [e] at this; exact this
theorem speaks_is (r : RuleP) (u a k : List UInt8) {x1 x2 x3 x4 y : Bool} (h1 : r.who.contains u = x1) (h2 : r.who.contains sAll = x2) (h3 : r.act.contains a = x3) (h4 : r.act.contains sAll = x4) (h5 : r.on.any (like · k) = y) : speaksP r u a k = ((x1 || x2) && (x3 || x4) && y) := by
  unfold speaksP inL; rw [h1, h2, h3, h4, h5]
set_option maxHeartbeats 4000000 in
set_option maxRecDepth 20000 in
theorem qspeaks_any (x : Bool) (a1 : Option Addr) (n1 e1 : Nat) (a2 : Option Addr) (n2 e2 : Nat) (a3 : Option Addr) (n3 e3 : Nat) (r : RuleP) (u a key : List UInt8) (w : World) (h : relQ w (inW w) (x, .slice a1 n1 e1, .slice a2 n2 e2, .slice a3 n3 e3) r) (hk : key.length ≤ 140737488355327) :
    Calls Tryd.prog 62 #[.agg #[.bool x, .slice a1 n1 e1, .slice a2 n2 e2, .slice a3 n3 e3], str u, str a, str key] w fun e w' => e = .returned (.bool (speaksP r u a key)) ∧ Below w.heap.size w w' := by
  obtain ⟨s1, s2, s3, s4⟩ := h.sz
  have b0 : Below w.heap.size w (w.alloc (.cells #[.bool x, .slice a1 n1 e1, .slice a2 n2 e2, .slice a3 n3 e3] 109)) := (Below.refl _ _).alloc (Nat.le_refl _) _
  have rw0 := srow.below h.who b0
  have ra0 := srow.below h.act b0
  have ro0 := srow.below h.on b0
  have c1 : (w.alloc (.cells #[.bool x, .slice a1 n1 e1, .slice a2 n2 e2, .slice a3 n3 e3] 109)).cell? ⟨w.heap.size, 1, none⟩ = some (.slice a1 n1 e1) := by simp [go_sem]
  have c2 : (w.alloc (.cells #[.bool x, .slice a1 n1 e1, .slice a2 n2 e2, .slice a3 n3 e3] 109)).cell? ⟨w.heap.size, 2, none⟩ = some (.slice a2 n2 e2) := by simp [go_sem]
  have c3 : (w.alloc (.cells #[.bool x, .slice a1 n1 e1, .slice a2 n2 e2, .slice a3 n3 e3] 109)).cell? ⟨w.heap.size, 3, none⟩ = some (.slice a3 n3 e3) := by simp [go_sem]
  obtain ⟨x1, X1⟩ : ∃ z, Hid (r.who.contains u = z) := ⟨_, rfl⟩
  obtain ⟨x2, X2⟩ : ∃ z, Hid (r.who.contains sAll = z) := ⟨_, rfl⟩
  obtain ⟨x3, X3⟩ : ∃ z, Hid (r.act.contains a = z) := ⟨_, rfl⟩
  obtain ⟨x4, X4⟩ : ∃ z, Hid (r.act.contains sAll = z) := ⟨_, rfl⟩
  obtain ⟨av, cv, ev, _, hcells⟩ := row_view ro0
  simp only [Value.slice.injEq] at ev
  obtain ⟨rfl, rfl, rfl⟩ := ev
  have HC : Hid (_) := hcells
  clear h hcells
  go_enter Tryd.func62, Tryd.ntmps62
  go_wp2_with fail
  generalize (w.alloc (.cells #[.bool x, .slice a1 n1 e1, .slice a2 n2 e2, .slice a3 r.on.length e3] 109)) = W at *
  refine (named_is _ r.who u x1 W rw0 (by omega) X1.out).mono ?_
  rintro e w' ⟨rfl, rfl⟩
  go_wp2_with fail
  refine (named_is _ r.who sAll x2 W rw0 (by omega) X2.out).mono ?_
  rintro e w' ⟨rfl, rfl⟩
  go_wp2_with fail
  refine (named_is _ r.act a x3 W ra0 (by omega) X3.out).mono ?_
  rintro e w' ⟨rfl, rfl⟩
  go_wp2_with fail
  refine (named_is _ r.act sAll x4 W ra0 (by omega) X4.out).mono ?_
  rintro e w' ⟨rfl, rfl⟩
  go_wp2
  go_loopw [13, 14] (fun ov i wr => ∃ k : Nat, ∃ y : Bool, k ≤ r.on.length ∧ i = .int .i64 k ∧ ov = .bool y ∧ (r.on.take k).any (like · key) = y ∧ Below W.heap.size W wr) (fun _ i _ => r.on.length - (intOf i).toNat)
  case atStart => exact ⟨0, false, Nat.zero_le _, rfl, rfl, rfl, Below.refl _ _⟩
  case round =>
    obtain ⟨k, y, hkl, rfl, rfl, hy, hb⟩ := hrel
    have HY : Hid ((r.on.take k).any (like · key) = y) := hy
    clear hy
    have hxb : w.heap.size < W.heap.size := World.block_lt_of_cell? W ⟨w.heap.size, 3, none⟩ c3
    have y3 := (hb.cell (p := ⟨w.heap.size, 3, none⟩) hxb).trans c3
    by_cases hlt : k < r.on.length
    · obtain ⟨g', rfl, d1, hg⟩ := HC.out k (str r.on[k]) (by rw [List.getElem?_map, List.getElem?_eq_getElem hlt]; rfl)
      replace d1 := (hb.cell (p := ⟨g', k, none⟩) hg).trans d1
      have FT : Hid (_) := rfits_any r.on[k] key
      have hyk : r.on[k].length ≤ 4000 := s4 _ (List.getElem_mem hlt)
      obtain ⟨z, HZ⟩ : ∃ z, Hid (like r.on[k] key = z) := ⟨like r.on[k] key, rfl⟩
      go_wp2_with fail
      refine (FT.out wr hyk hk).mono ?_
      rw [HZ.out]
      rintro e w1 ⟨rfl, b1⟩
      have HY2 : Hid ((r.on.take (k + 1)).any (like · key) = (y || z)) := by show _ = _; rw [take_snoc' hlt, List.any_append, HY.out]; simp [HZ.out]
      have K1 := below_trans hb b1
      clear HY HZ FT b1
      cases y with
      | true =>
        go_wp2
        go_roundw
        case rel => exact ⟨k + 1, true, by omega, by go_num, rfl, HY2.out, K1⟩
        case measure => simp [intOf]; omega
      | false =>
        go_wp2
        go_roundw
        case rel => exact ⟨k + 1, z, by omega, by go_num, rfl, HY2.out, K1⟩
        case measure => simp [intOf]; omega
    · obtain rfl : k = r.on.length := by omega
      have HF : Hid (speaksP r u a key = ((x1 || x2) && (x3 || x4) && y)) := speaks_is r u a key X1.out X2.out X3.out X4.out (by have := HY.out; rwa [List.take_length] at this)
      have KB := below_trans b0 hb
      clear X1 X2 X3 X4 HY HC
      cases x1 <;> cases x2 <;> cases x3 <;> cases x4 <;> (go_wp2; go_ret; exact ⟨ret_bool (by rw [HF.out]; simp), KB⟩)

abbrev qqcells (q : QuadQ) : List Value := [.bool q.1, q.2.1, q.2.2.1, q.2.2.2]
def rqcells (us : List QuadQ) : List Value := us.flatMap qqcells
theorem rqcells_at : ∀ (l : List QuadQ) (k : Nat) (h : k < l.length), (rqcells l)[k * 4]? = some (.bool l[k].1) ∧ (rqcells l)[k * 4 + 1]? = some l[k].2.1 ∧ (rqcells l)[k * 4 + 2]? = some l[k].2.2.1 ∧ (rqcells l)[k * 4 + 3]? = some l[k].2.2.2
  | p :: l, 0, _ => ⟨rfl, rfl, rfl, rfl⟩
  | p :: l, k + 1, h => by
    have := rqcells_at l k (by simpa using h)
    rw [show (k + 1) * 4 = k * 4 + 1 + 1 + 1 + 1 by omega]
    exact this
def qpolicyIn (w : World) (P : Nat → Prop) (sl : Value) (rs : List RuleP) : Prop := ∃ us, w.ownsRow 0 109 4 sl rs.length (rqcells us) ∧ (∀ g, sl.ownBlock = some g → P g) ∧ all2 (relQ w P) us rs
set_option maxHeartbeats 4000000 in
set_option maxRecDepth 20000 in
theorem qsays_any (sl : Value) (rs : List RuleP) (u a key : List UInt8) (w : World) (h : qpolicyIn w (inW w) sl rs) (hr4 : rs.length ≤ 1000000) (hk : key.length ≤ 140737488355327) :
    Calls Tryd.prog 37 #[sl, str u, str a, str key] w fun e w' => e = .returned (.int .i64 (saysP rs u a key)) ∧ Below w.heap.size w w' := by
  obtain ⟨us, hrow, _, hall⟩ := h
  have hlen := all2_len hall
  obtain ⟨av, cap, rfl, hcap, hcells⟩ := row_view hrow
  have HC : Hid (∀ j u, (rqcells us)[j]? = some u → ∃ g, av = some ⟨g, 0, none⟩ ∧ w.cell? ⟨g, j, none⟩ = some u ∧ g < w.heap.size) := hcells
  have HA : Hid (all2 (relQ w (inW w)) us rs) := hall
  clear hcells hall hrow
  go_enter Tryd.func37, Tryd.ntmps37
  go_wp2
  go_loopw [9, 10, 11] (fun yv nv i wr => ∃ n : Nat, ∃ yes no : Bool, n ≤ rs.length ∧ i = .int .i64 n ∧ yv = .bool yes ∧ nv = .bool no ∧ (rs.take n).any (fun r => !r.deny && speaksP r u a key) = yes ∧ (rs.take n).any (fun r => r.deny && speaksP r u a key) = no ∧ Below w.heap.size w wr) (fun _ _ i _ => rs.length - (intOf i).toNat)
  case atStart => exact ⟨0, false, false, Nat.zero_le _, rfl, rfl, rfl, rfl, rfl, Below.refl _ _⟩
  case round =>
    obtain ⟨n, yes, no, hn, rfl, rfl, rfl, hy, hno, hb⟩ := hrel
    have HY : Hid ((rs.take n).any (fun r => !r.deny && speaksP r u a key) = yes) := hy
    have HN : Hid ((rs.take n).any (fun r => r.deny && speaksP r u a key) = no) := hno
    clear hy hno
    have hsz := hb.size
    by_cases hlt : n < rs.length
    · have hu : n < us.length := by omega
      obtain ⟨m0, m1, m2, m3⟩ := rqcells_at us n hu
      have hr : relQ wr (inW wr) us[n] rs[n] := ((all2_get HA.out n hu hlt).kept (Kept.of_below hb) (fun g hg e => by unfold inW at hg; omega)).mono (fun g hg => by unfold inW at *; omega)
      obtain ⟨x, a1, n1, e1, a2, n2, e2, a3, n3, e3, hq⟩ := relQ.slices hr
      have hx : Hid (x = rs[n].deny) := by have := hr.says; rw [hq] at this; exact this
      rw [hq] at m0 m1 m2 m3 hr
      obtain ⟨g, rfl, d0, hg⟩ := HC.out _ _ m0
      obtain ⟨g1, e1', d1, _⟩ := HC.out _ _ m1
      obtain rfl : g = g1 := by simpa using e1'
      obtain ⟨g2, e2', d2, _⟩ := HC.out _ _ m2
      obtain rfl : g = g2 := by simpa using e2'
      obtain ⟨g3, e3', d3, _⟩ := HC.out _ _ m3
      obtain rfl : g = g3 := by simpa using e3'
      replace d0 := (hb.cell (p := ⟨g, n * 4, none⟩) hg).trans d0
      replace d1 := (hb.cell (p := ⟨g, n * 4 + 1, none⟩) hg).trans d1
      replace d2 := (hb.cell (p := ⟨g, n * 4 + 2, none⟩) hg).trans d2
      replace d3 := (hb.cell (p := ⟨g, n * 4 + 3, none⟩) hg).trans d3
      clear m0 m1 m2 m3 e1' e2' e3' hq
      have SP : Hid (_) := qspeaks_any x a1 n1 e1 a2 n2 e2 a3 n3 e3 rs[n] u a key
      obtain ⟨z, HZ⟩ : ∃ z, Hid (speaksP rs[n] u a key = z) := ⟨speaksP rs[n] u a key, rfl⟩
      go_wp2_with fail
      refine (SP.out wr hr hk).mono ?_
      rw [HZ.out]
      rintro e w1 ⟨rfl, b1⟩
      replace d0 := (b1.cell (p := ⟨g, n * 4, none⟩) (show g < wr.heap.size by omega)).trans d0
      have KB : Below w.heap.size w w1 := below_trans hb b1
      have HY2 : Hid ((rs.take (n + 1)).any (fun r => !r.deny && speaksP r u a key) = (yes || (!x && z))) := by show _ = _; rw [take_snoc' hlt, List.any_append, HY.out]; simp [HZ.out, hx.out]
      have HN2 : Hid ((rs.take (n + 1)).any (fun r => r.deny && speaksP r u a key) = (no || (x && z))) := by show _ = _; rw [take_snoc' hlt, List.any_append, HN.out]; simp [HZ.out, hx.out]
      clear SP HY HN HZ hx hr b1 d1 d2 d3
      cases yes <;> cases no <;> cases z <;> cases x <;> (go_wp2; go_roundw; exact ⟨n + 1, _, _, by omega, by go_num, rfl, rfl, HY2.out, HN2.out, KB⟩; (simp [intOf]; omega))
    · obtain rfl : n = rs.length := by omega
      have HF : Hid (saysP rs u a key = if no then 2 else if yes then 1 else 0) := by
        show _ = _
        have h1 := HN.out; have h2 := HY.out
        rw [List.take_length] at h1 h2
        unfold saysP; rw [h1]
        cases no with
        | true => rfl
        | false =>
          simp only [Bool.false_eq_true, if_false]
          have e : rs.any (fun r => speaksP r u a key) = yes := by
            rw [← h2]
            rw [List.any_eq_false] at h1
            rw [Bool.eq_iff_iff, List.any_eq_true, List.any_eq_true]
            constructor
            · rintro ⟨r, hm, hs⟩
              refine ⟨r, hm, ?_⟩
              have := h1 r hm
              rw [hs] at this ⊢; simpa using this
            · rintro ⟨r, hm, hs⟩
              exact ⟨r, hm, by simp at hs; exact hs.2⟩
          rw [e]
      clear HY HN
      cases no <;> cases yes <;> (go_wp2; go_ret; exact ⟨ret_int (by rw [HF.out]; rfl), hb⟩)
end Go.Proofs.YtinnliapfdpfpaaDoor.P
