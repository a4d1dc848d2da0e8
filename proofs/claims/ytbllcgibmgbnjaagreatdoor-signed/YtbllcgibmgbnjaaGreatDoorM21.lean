/-
  KApp, KAdd.
-/
import Derived.Test.YtbllcgibmgbnjaaGreatDoorM20
import Derived.Deep.AppendLies
import Derived.Deep.RegionHeldLaw
import Derived.Laws.EntriesVeiled
namespace Go.Proofs.YtbllcgibmgbnjaaGreatDoor.P
open Go.RowKit
open Go.Proofs.YtbllcgibmgbnjaaGreatDoor.C (ret_bool ret_int ret_str)

/-- How an append ends. -/
structure Appended (w w' : World) (base : Nat) (e : TypeId) (size : Nat) (v v' : Value) (n m : Nat) (xs news : List Value) : Prop where
  own : w'.ownsRow base e size v' (n + m) (xs ++ news)
  old : w'.ownsRow base e size v n xs
  either : (∃ g, v.ownBlock = some g ∧ v'.ownBlock = some g ∧ w.grownBy w' (some g)) ∨ (v'.ownBlock = some w.heap.size ∧ Below w.heap.size w w')

section
variable {P : Program} (w : World)
theorem run_append_two (t ty : TypeId) (base : Nat) (e : TypeId) (i : TypeInfo) (z : Value) (size bytes : Nat) (ht : P.underlying t = some (.slice e)) (hi : P.info? e = some i) (hz : i.zero = some z)
    (hsize : i.size = size) (hby : i.bytes = bytes) (hzs : z.cells.size = size)
    (v : Value) (n : Nat) (xs : List Value) (hown : w.ownsRow base e size v n xs)
    (a : Addr) (m c : Nat) (news : List Value) (hl : news.length = m * size) (hnews : ∀ j u, news[j]? = some u → w.cell? (a.add j) = some u) (h1 : ∀ u ∈ news, u.oneCell' = true)
    (hm : 0 < m) (h63 : n + m ≤ maxLen) (hbytes : (n + m) * bytes ≤ 140737488355328) (hbase : base ≤ w.heap.size) :
    ∃ v' w', (Builtin.append_ #[t, t] ty #[v, .slice (some a) m c]).run P w = .ok v' w' ∧ Appended w w' base e size v v' n m xs news := by
  subst hsize
  subst hby
  have hsmall : n + m ≤ 9223372036854775807 := by simp only [maxLen] at h63; omega
  have hlen : (xs ++ news).length = (n + m) * i.size := by rw [List.length_append, hown.1, hl, Nat.add_mul]
  have grown : ∀ (old : Nat), old < n + m →
      (w.drew.alloc (.cells (xs.toArray ++ news.toArray ++ Builtin.zeroCells z.cells (grownCap w (n + m) old e - (n + m))) e)).ownsRow base e i.size
        (.slice (some ⟨w.heap.size, 0, none⟩) (n + m) (grownCap w (n + m) old e)) (n + m) (xs ++ news) ∧
      Below w.heap.size w (w.drew.alloc (.cells (xs.toArray ++ news.toArray ++ Builtin.zeroCells z.cells (grownCap w (n + m) old e - (n + m))) e)) := by
    intro old ho
    have hge := grownCap_ge w (n + m) old e
    have hcm : grownCap w (n + m) old e ≤ maxLen := grownCap_le_maxLen w (n + m) old e h63
    refine ⟨⟨hlen, .inr ⟨w.heap.size, _, _, rfl, hbase, heap_alloc_new w.drew _, hge, hcm, ?_, ?_⟩⟩, (Below.refl w.heap.size w).drew.alloc (Nat.le_refl _) _⟩
    · simp only [Array.size_append, List.size_toArray, size_zeroCells, hzs, hown.1, hl, ← Nat.add_mul]
      congr 1
      omega
    · simp only [Array.toList_append, List.append_assoc]
      rw [← List.append_assoc, ← hlen]
      exact List.take_left
  have kept : ∀ w', Below w.heap.size w w' → w'.ownsRow base e i.size v n xs := fun w' hb =>
    World.ownsRow.kept hown ⟨hb.os, hb.tape, hb.output, hb.size, fun k hk _ => hb.block k hk⟩ (row := none) (by cases hv : v.ownBlock <;> simp)
  rcases hown.2 with ⟨rfl, rfl⟩ | ⟨g, cap, cur, rfl, hbg, hg, hnc, hcm, hcs, htake⟩
  · have hx : xs = [] := List.eq_nil_of_length_eq_zero (by simpa using hown.1)
    subst hx
    have hr := run_append_nil (P := P) w t ty e i z ht hi hz a m c news hl hnews (by omega) (by omega) (by have hb := hbytes; simp only [Nat.zero_add] at hb; omega)
    have hgr := grown 0 (by omega)
    simp only [Nat.zero_add, List.nil_append, Array.empty_append] at hgr hr
    refine ⟨_, _, hr, ?_, kept _ hgr.2, .inr ⟨rfl, hgr.2⟩⟩
    simpa using hgr.1
  · by_cases hroom : n + m ≤ cap
    · have hfit : n * i.size + news.length ≤ cur.size := by rw [hl, hcs, ← Nat.add_mul]; exact Nat.mul_le_mul_right _ hroom
      have hr := run_append_room (P := P) w t ty e i ht hi g n cap cur hg a m c news hl hnews h1 hroom hfit
      have hsz : (cur.toList.take (n * i.size) ++ news ++ cur.toList.drop (n * i.size + news.length)).toArray.size = cap * i.size := by
        simp only [List.size_toArray, List.length_append, List.length_take, List.length_drop, Array.length_toList]
        omega
      refine ⟨_, _, hr, ⟨hlen, .inr ⟨g, cap, _, rfl, hbg, setRow_heap w g cur _ e _ hg, hroom, hcm, hsz, ?_⟩⟩, ⟨hown.1, .inr ⟨g, cap, _, rfl, hbg, setRow_heap w g cur _ e _ hg, hnc, hcm, hsz, ?_⟩⟩,
        .inl ⟨g, rfl, rfl, ⟨rfl, rfl, rfl, by simp, fun k _ hk => setRow_other w g k _ (fun e => hk (by simp [e]))⟩⟩⟩
      · rw [htake, ← hlen]
        exact List.take_left
      · rw [htake]
        show List.take (n * i.size) ((xs ++ news) ++ _) = xs
        rw [List.append_assoc, ← hown.1]
        exact List.take_left
    · have holds : ∀ j u, xs[j]? = some u → w.cell? ((⟨g, 0, none⟩ : Addr).add j) = some u := hown.cells (g := g) rfl
      have hr := run_append_grow (P := P) w t ty e i z ht hi hz ⟨g, 0, none⟩ n cap xs hown.1 holds a m c news hl hnews (by omega) (by omega) (growslice_fits (by omega) hbytes)
      have hgr := grown cap (by omega)
      exact ⟨_, _, hr, hgr.1, kept _ hgr.2, .inr ⟨rfl, hgr.2⟩⟩

end
theorem Appended.kept {w w' : World} {base : Nat} {e : TypeId} {size : Nat} {v v' : Value} {n m : Nat} {xs news : List Value} (h : Appended w w' base e size v v' n m xs news) : Kept (fun g => v.ownBlock = some g) w w' := by
  rcases h.either with ⟨g, e1, _, k⟩ | ⟨_, k⟩
  · rw [e1]; exact Kept.of_grown k
  · exact (Kept.of_below k).mono (fun g hg e => by omega)
theorem Appended.lies {w w' : World} {base : Nat} {e : TypeId} {size : Nat} {v v' : Value} {n m : Nat} {xs news : List Value} (h : Appended w w' base e size v v' n m xs news) : v'.ownBlock = v.ownBlock ∨ v'.ownBlock = some w.heap.size := by
  rcases h.either with ⟨g, e1, e2, _⟩ | ⟨e, _⟩
  · exact .inl (e2.trans e1.symm)
  · exact .inr e
/-- Any world in which the map of versions alone has turned. -/
theorem KSv.putV {b : Nat} {s : Sto} {r : Roles} {uv lv : Value} {mb mv : Nat} {W W' : World} {f' : Value → Option Value} {vs' : Tx → Tx → List Ver} (hW : KSv b s r uv lv mb mv W) (k : Kept (· = mv) W W') (hM : MapIs isTwo W' mv f') (hB : VF W' r f' vs') : KSv b { s with vs := vs' } r uv lv mb mv W' := by
  have nb : ∀ {g}, r g ≠ .vss → ¬ g = mv := fun h e => h (by rw [e]; exact hW.rv)
  have hbb : b < W.heap.size := hW.dom b (by rw [hW.rb]; simp)
  have nbb : ¬ b = mv := nb (by rw [hW.rb]; simp)
  exact { c0 := k.cell hW.c0 nbb, c1 := k.cell hW.c1 nbb, c2 := k.cell hW.c2 nbb, c3 := k.cell hW.c3 nbb, c4 := k.cell hW.c4 nbb, c5 := k.cell hW.c5 nbb, fz := fun j => k.frozen (a := ⟨b, j, none⟩) hbb (hW.fz j) nbb, rb := hW.rb, us := k.row hW.us (fun g e => nb (by rw [hW.ur g e]; simp)), ur := hW.ur, lg := k.row hW.lg (fun g e => nb (by rw [hW.lr g e]; simp)), lr := hW.lr,
          bk := hW.bk.kept k (nb (by rw [hW.rk]; simp)) (fun g e => nb (by rw [e]; simp)), rk := hW.rk, vs := ⟨f', hM, hB.1, hB.2⟩, rv := hW.rv, dom := fun g e => Nat.lt_of_lt_of_le (hW.dom g e) k.size }
theorem VF.put {w : World} {r : Roles} {f g : Value → Option Value} {vs : Tx → Tx → List Ver} (h : VF w r f vs) {b k : Tx} {l : List Ver} {sl : Value} (hg : g (keyV b k) = some sl) (ho : ∀ v, v ≠ keyV b k → g v = f v) (hl : l ≠ []) (hp : vrow w sl l) (hr : ∀ q, sl.ownBlock = some q → r q = .ver b k) : VF w r g (fun c j => if c = b ∧ j = k then l else vs c j) := by
  refine ⟨fun c j hm => ?_, fun c j hm => ?_⟩
  · dsimp only at hm
    by_cases e : c = b ∧ j = k
    · rw [if_pos e] at hm; exact absurd hm hl
    · rw [if_neg e] at hm
      rw [ho _ (fun h => e (keyV_inj h))]; exact h.1 c j hm
  · dsimp only at hm ⊢
    by_cases e : c = b ∧ j = k
    · rw [if_pos e, e.1, e.2]; exact ⟨sl, hg, hp, hr⟩
    · rw [if_neg e] at hm
      rw [if_neg e]
      obtain ⟨sl', e1, e2⟩ := h.2 c j hm
      exact ⟨sl', by rw [ho _ (fun h => e (keyV_inj h))]; exact e1, e2⟩
theorem VF.del {w : World} {r : Roles} {f g : Value → Option Value} {vs : Tx → Tx → List Ver} (h : VF w r f vs) {b k : Tx} (hg : g (keyV b k) = none) (ho : ∀ v, v ≠ keyV b k → g v = f v) : VF w r g (fun c j => if c = b ∧ j = k then [] else vs c j) := by
  refine ⟨fun c j hm => ?_, fun c j hm => ?_⟩
  · dsimp only at hm
    by_cases e : c = b ∧ j = k
    · rw [e.1, e.2]; exact hg
    · rw [if_neg e] at hm
      rw [ho _ (fun h => e (keyV_inj h))]; exact h.1 c j hm
  · dsimp only at hm ⊢
    by_cases e : c = b ∧ j = k
    · rw [if_pos e] at hm; exact absurd rfl hm
    · rw [if_neg e] at hm
      rw [if_neg e]
      obtain ⟨sl', e1, e2⟩ := h.2 c j hm
      exact ⟨sl', by rw [ho _ (fun h => e (keyV_inj h))]; exact e1, e2⟩
theorem VMap.find2 {w : World} {m : Nat} {r : Roles} {vs : Tx → Tx → List Ver} (h : VMap w m r vs) (b k : Tx) : ∃ f, MapIs isTwo w m f ∧ VF w r f vs ∧ ∃ (sl : Sl) (o : Option Sl), f (keyV b k) = o.map Sl.v ∧ lookV false (.slice none 0 0) (f (keyV b k)) = sl.v ∧ vrow w sl.v (vs b k) ∧ (∀ g, sl.v.ownBlock = some g → r g = .ver b k) ∧ (vs b k ≠ [] → o = some sl) ∧ (vs b k = [] → o = none) := by
  obtain ⟨f, h1, h2, h3⟩ := h
  refine ⟨f, h1, ⟨h2, h3⟩, ?_⟩
  by_cases hv : vs b k = []
  · exact ⟨(none, 0, 0), none, h2 b k hv, by rw [h2 b k hv]; rfl, by rw [hv]; exact World.ownsRow_nil _ _ _ _, (fun g e => nomatch e), fun e => absurd hv e, fun _ => rfl⟩
  · obtain ⟨sl, e1, e2, e3⟩ := h3 b k hv
    obtain ⟨a, c, e, _⟩ := vrow.sl e2
    subst e
    exact ⟨(a, _, c), some (a, _, c), e1, by rw [e1]; rfl, e2, e3, fun _ => rfl, fun h => absurd h hv⟩
/-- Behind an append to a list of versions: all is as it was, the new list has its role. -/
theorem KSv.app {b : Nat} {s : Sto} {r : Roles} {uv lv : Value} {mb mv : Nat} {X w1 : World} (h : KSv b s r uv lv mb mv X) {n k : Tx} {f : Value → Option Value} (hm : MapIs isTwo X mv f) (hf : VF X r f s.vs) {sl v' : Value} (hlook : s.vs n k ≠ [] → f (keyV n k) = some sl) (hr : ∀ g, sl.ownBlock = some g → r g = .ver n k)
    {xs news : List Value} {m : Nat} (ha : Appended X w1 0 292 3 sl v' (s.vs n k).length m xs news) (hx : xs = vcells (s.vs n k)) :
    KSv b s (newR r v'.ownBlock (.ver n k)) uv lv mb mv w1 ∧ MapIs isTwo w1 mv f ∧ VF w1 (newR r v'.ownBlock (.ver n k)) f s.vs ∧ Step r X (newR r v'.ownBlock (.ver n k)) w1 := by
  subst hx
  have kk := ha.kept
  have hb := h.blt
  have E : ∀ {g}, r g ≠ .none → r g ≠ .ver n k → newR r v'.ownBlock (.ver n k) g = r g := fun hn hc => newR_eq hr ha.lies h.dom hn hc
  have E2 : ∀ {g c j}, r g = .ver c j → newR r v'.ownBlock (.ver n k) g = .ver c j := fun {g c j} e => by
    unfold newR
    by_cases hh : v'.ownBlock = some g
    · rw [if_pos hh]
      rcases ha.lies with h1 | h1
      · have := hr g (h1.symm.trans hh); rw [this] at e; exact e
      · rw [hh] at h1; cases h1; have := h.dom X.heap.size (by rw [e]; simp); omega
    · rw [if_neg hh]; exact e
  have no : ∀ g, r g ≠ .ver n k → ¬ sl.ownBlock = some g := fun g h2 e => h2 (hr g e)
  have nb : ¬ sl.ownBlock = some b := no b (by rw [h.rb]; simp)
  have hM1 : MapIs isTwo w1 mv f := hm.kept kk (no mv (by rw [h.rv]; simp))
  have hV1 : VF w1 (newR r v'.ownBlock (.ver n k)) f s.vs := ⟨hf.1, fun c j e => by
    obtain ⟨sl', e1, e2, e3⟩ := hf.2 c j e
    by_cases hcj : c = n ∧ j = k
    · obtain ⟨rfl, rfl⟩ := hcj
      have := hlook e
      rw [e1] at this; cases this
      exact ⟨_, e1, ha.old, fun g hg => E2 (e3 g hg)⟩
    · exact ⟨sl', e1, kk.row e2 (fun g hg => no g (by rw [e3 g hg]; intro h; cases h; exact hcj ⟨rfl, rfl⟩)), fun g hg => E2 (e3 g hg)⟩⟩
  refine ⟨{ c0 := kk.cell h.c0 nb, c1 := kk.cell h.c1 nb, c2 := kk.cell h.c2 nb, c3 := kk.cell h.c3 nb, c4 := kk.cell h.c4 nb, c5 := kk.cell h.c5 nb, fz := fun j => kk.frozen (a := ⟨b, j, none⟩) hb (h.fz j) nb, rb := ?_, us := kk.row h.us (fun g e => no g (by rw [h.ur g e]; simp)), ur := ?_, lg := kk.row h.lg (fun g e => no g (by rw [h.lr g e]; simp)), lr := ?_, bk := ?_, rk := ?_, vs := ⟨f, hM1, hV1⟩, rv := ?_, dom := ?_ }, hM1, hV1, ?_, ?_⟩
  · rw [E (by rw [h.rb]; simp) (by rw [h.rb]; simp)]; exact h.rb
  · intro g e; rw [E (by rw [h.ur g e]; simp) (by rw [h.ur g e]; simp)]; exact h.ur g e
  · intro g e; rw [E (by rw [h.lr g e]; simp) (by rw [h.lr g e]; simp)]; exact h.lr g e
  · exact (h.bk.kept kk (no mb (by rw [h.rk]; simp)) (fun g e => no g (by rw [e]; simp))).roles (fun g e => by rw [E (by rw [e]; simp) (by rw [e]; simp)]; exact e)
  · rw [E (by rw [h.rk]; simp) (by rw [h.rk]; simp)]; exact h.rk
  · rw [E (by rw [h.rv]; simp) (by rw [h.rv]; simp)]; exact h.rv
  · intro g e
    rcases newR_dom e with h1 | h1
    · exact (World.ownsRow.lt ha.own g h1).2
    · exact Nat.lt_of_lt_of_le (h.dom g h1) kk.size
  · exact kk.mono (fun g _ e => by rw [hr g e]; simp)
  · intro g hg e
    rcases newR_dom e with h1 | h1
    · rcases ha.lies with h2 | h2
      · rw [hr g (h2.symm.trans h1)]; simp
      · rw [h1] at h2; cases h2; omega
    · exact h1
/-- A list of versions set, from what 'set' answers, and the way back. -/
theorem setV_beg {b : Nat} {s : Sto} {r : Roles} {uv lv : Value} {mb mv : Nat} {Y w5 : World} (h : KSv b s r uv lv mb mv Y) {n k : Tx} {f : Value → Option Value} (_hm : MapIs isTwo Y mv f) (hf : VF Y r f s.vs) {v' : Value} {l : List Ver} (hl : l ≠ []) (hp : vrow Y v' l) (hr : ∀ g, v'.ownBlock = some g → r g = .ver n k) {F : Nat} {e : Ending}
    (hs : setPost F mv (keyV n k) v' isTwo f Y e w5) : ∃ caps, e = .returned (.func (.func F) #[] caps) ∧ KSv b (s.setVs n k l) r uv lv mb mv w5 ∧ Kept (· = mv) Y w5 ∧
      ∀ W, Kept (fun g => g < Y.heap.size ∧ r g = .none) w5 W → Calls Tryz.prog F caps W fun e W' => e = .returned (.tuple #[]) ∧ KSv b s r uv lv mb mv W' ∧ Kept (· = mv) W W' := by
  obtain ⟨caps, rfl, ⟨g, hm2, hg1, hg2⟩, k2, undo⟩ := hs
  have nv : ∀ {q}, r q ≠ .vss → ¬ q = mv := fun h1 e => h1 (by rw [e]; exact h.rv)
  have hf2 : VF w5 r f s.vs := hf.kept k2 (fun q _ _ e => nv (by rw [e]; simp))
  have K2 : KSv b (s.setVs n k l) r uv lv mb mv w5 := h.putV k2 hm2 (hf2.put hg1 hg2 hl (k2.row hp (fun q e => nv (by rw [hr q e]; simp))) hr)
  refine ⟨caps, rfl, K2, k2, fun W hW => ?_⟩
  have nn : ∀ q, r q ≠ .none → ¬ (q < Y.heap.size ∧ r q = .none) := fun q h1 h2 => h1 h2.2
  have K2W := K2.kept hW nn
  refine Calls.mono (undo W g (hW.mono (fun j hj e => e.1)) (hm2.kept hW (nn mv (by rw [h.rv]; simp)))) ?_
  rintro e W' ⟨rfl, ⟨f', hm', hf1', hf2'⟩, k'⟩
  have ff : f' = f := funext fun v => by
    by_cases hv : v = keyV n k
    · rw [hv]; exact hf1'
    · rw [hf2' v hv]; exact hg2 v hv
  have hB' : VF W' r f' s.vs := by
    rw [ff]
    exact (hf2.kept hW (fun q c j e => nn q (by rw [e]; simp))).kept k' (fun q _ _ e => nv (by rw [e]; simp))
  have KB : KSv b { s.setVs n k l with vs := s.vs } r uv lv mb mv W' := K2W.putV k' hm' hB'
  exact ⟨rfl, KB, k'⟩
end Go.Proofs.YtbllcgibmgbnjaaGreatDoor.P
namespace Go.Proofs.YtbllcgibmgbnjaaGreatDoor.P
open Go.RowKit
open Go.Proofs.YtbllcgibmgbnjaaGreatDoor.C (ret_bool ret_int ret_str)

theorem KSv.setLast {b : Nat} {s : Sto} {r : Roles} {uv lv : Value} {mb mv : Nat} {W : World} (h : KSv b s r uv lv mb mv W) (m : Nat) : KSv b { s with last := m } r uv lv mb mv (W.setCell ⟨b, 5, none⟩ (.int .i64 (m : Int))) ∧ Kept (· = b) W (W.setCell ⟨b, 5, none⟩ (.int .i64 (m : Int))) := by
  have k : Kept (· = b) W (W.setCell ⟨b, 5, none⟩ (.int .i64 (m : Int))) := Kept.of_grown1 (grown_set _ _ _ _)
  have nb : ∀ {g}, r g ≠ .self → ¬ g = b := fun h1 e => h1 (by rw [e]; exact h.rb)
  have hb := h.blt
  have c0 := h.c0; have c1 := h.c1; have c2 := h.c2; have c3 := h.c3; have c4 := h.c4; have c5 := h.c5; have fz := h.fz
  refine ⟨{ c0 := ?_, c1 := ?_, c2 := ?_, c3 := ?_, c4 := ?_, c5 := ?_, fz := ?_, rb := h.rb, us := k.row h.us (fun g e => nb (by rw [h.ur g e]; simp)), ur := h.ur, lg := k.row h.lg (fun g e => nb (by rw [h.lr g e]; simp)), lr := h.lr, bk := h.bk.kept k (nb (by rw [h.rk]; simp)) (fun g e => nb (by rw [e]; simp)), rk := h.rk, vs := h.vs.kept k (nb (by rw [h.rv]; simp)) (fun g _ _ e => nb (by rw [e]; simp)), rv := h.rv, dom := fun g e => Nat.lt_of_lt_of_le (h.dom g e) k.size }, k⟩
  · simp [go_sem, c0]
  · simp [go_sem, c1]
  · simp [go_sem, c2]
  · simp [go_sem, c3]
  · simp [go_sem, c4]
  · simp [go_sem, c5]
  · intro j; simp [go_sem, fz]
set_option maxHeartbeats 2000000 in
set_option maxRecDepth 20000 in
/-- The way back of a version more. -/
theorem addBack_any {b : Nat} {s : Sto} {r : Roles} {uv lv : Value} {mb mv fb sp : Nat} {caps : Array Value} {W : World} (hl : s.last ≤ 1000000)
    (hsp : ¬ sp = mv)
    (hc : Calls Tryz.prog 356 caps W fun e W' => e = .returned (.tuple #[]) ∧ KSv b { s with last := s.last + 1 } r uv lv mb mv W' ∧ Kept (· = mv) W W')
    (h1 : W.cell? ⟨fb, 0, none⟩ = some (.func (.func 356) #[] caps)) (h2 : W.cell? ⟨sp, 0, none⟩ = some (.pointer (some ⟨b, 0, none⟩))) :
    Calls Tryz.prog 355 #[.pointer (some ⟨fb, 0, none⟩), .pointer (some ⟨sp, 0, none⟩)] W fun e W' => e = .returned (.tuple #[]) ∧ KSv b s r uv lv mb mv W' ∧ Kept (fun g => g = mv ∨ g = b) W W' := by
  have CL : Hid (_) := hc
  have hen := enters_of Tryz.func356 (by kernel_rfl) rfl
  clear hc
  go_enter Tryz.func355, Tryz.ntmps355
  go_wp2_with fail
  refine Calls.mono CL.out ?_
  rintro e W1 ⟨rfl, K1, k1⟩
  replace h2 := k1.cell h2 hsp
  have c5 := K1.c5
  have f5 := K1.fz 5
  have HK : Hid (KSv b { s with last := s.last + 1 } r uv lv mb mv W1) := K1
  clear CL h1 K1
  dsimp only at c5
  go_wp2
  go_end0
  obtain ⟨K3, k3⟩ := HK.out.setLast s.last
  refine ⟨rfl, ?_, (k1.mono (T := fun g => g = mv ∨ g = b) (fun g _ e => .inl e)).trans (k3.mono (T := fun g => g = mv ∨ g = b) (fun g _ e => .inr e)) (fun _ _ e => e)⟩
  exact K3
def Sto.adds (s : Sto) (n k : Tx) (mark : Bool) (y : Tx) : Except Nat Sto := match s.bk n with
  | none => .error 404
  | some _ => if keyP k = true then .ok (s.add n k mark y) else .error 400
abbrev vcellsA (m : Nat) (mark : Bool) (y : Tx) : Array Value := #[.int .i64 (m : Int), .bool mark, str y]
abbrev addS (b mv H : Nat) (n k : Tx) (m : Int) (mark : Bool) (y : Tx) (X : World) : Prop :=
  X.cell? ⟨H, 0, none⟩ = some (.pointer (some ⟨b, 0, none⟩)) ∧ X.cell? ⟨b, 4, none⟩ = some (.map (some mv)) ∧ X.cell? ⟨H + 1, 0, none⟩ = some (str n) ∧ X.cell? ⟨H + 1, 1, none⟩ = some (str k) ∧ X.cell? ⟨H + 1 + 1, 0, none⟩ = some (.int .i64 m) ∧ X.cell? ⟨H + 1 + 1, 1, none⟩ = some (.bool mark) ∧ X.cell? ⟨H + 1 + 1, 2, none⟩ = some (str y)
theorem addS.kept {b mv H : Nat} {n k : Tx} {m : Int} {mark : Bool} {y : Tx} {S : Nat → Prop} {X X' : World} (h : addS b mv H n k m mark y X) (q : Kept S X X') (h1 : ¬ S H) (h2 : ¬ S b) (h3 : ¬ S (H + 1)) (h4 : ¬ S (H + 1 + 1)) : addS b mv H n k m mark y X' :=
  ⟨q.cell h.1 h1, q.cell h.2.1 h2, q.cell h.2.2.1 h3, q.cell h.2.2.2.1 h3, q.cell h.2.2.2.2.1 h4, q.cell h.2.2.2.2.2.1 h4, q.cell h.2.2.2.2.2.2 h4⟩
theorem addS.alloc {b mv H : Nat} {n k : Tx} {m : Int} {mark : Bool} {y : Tx} {X : World} (h : addS b mv H n k m mark y X) (o : Obj) : addS b mv H n k m mark y (X.alloc o) :=
  ⟨cell_alloc h.1 o, cell_alloc h.2.1 o, cell_alloc h.2.2.1 o, cell_alloc h.2.2.2.1 o, cell_alloc h.2.2.2.2.1 o, cell_alloc h.2.2.2.2.2.1 o, cell_alloc h.2.2.2.2.2.2 o⟩
theorem addS.set {b mv H : Nat} {n k : Tx} {m : Int} {mark : Bool} {y : Tx} {X : World} (h : addS b mv H n k m mark y X) {fb : Nat} (hf : b < fb ∧ H + 1 + 1 < fb) (v : Value) : addS b mv H n k m mark y (X.setCell ⟨fb, 0, none⟩ v) :=
  h.kept (Kept.of_grown1 (grown_set _ fb _ _)) (by omega) (by omega) (by omega) (by omega)
theorem Tryz.infoVer : (Tryz.prog.info? 292).map (fun i => (i.zero, i.size, i.bytes)) = some (some (.agg #[.int .i64 0, .bool false, .string ⟨#[]⟩]), 3, 32) := by kernel_rfl
theorem verapp_step {X : World} {ops : Array Oper} {o : Oper} {a : Act} {K : Act → World → Prop} {Q : Exit → Act → World → Prop} {E : Prop} (hgd : o.guard = none) (s x : Operand)
    (ho : o.op = .call { callee := .builtin .append, args := #[s, x], argTypes := #[290, 290] })
    (l : List Ver) (u : Ver) (v : Value) (hs : a.eval s = v) (hown : vrow X v l) (H : Nat) (hx : a.eval x = .slice (some ⟨H, 0, none⟩) 1 1)
    (fr : Nat × Nat) (q : Int) (hq : q = (u.num : Int)) (hblk : X.heap[H]? = some (.cells #[.int .i64 q, .bool u.mark, str u.body] 292 fr)) (hlen : l.length ≤ 1000000000)
    (h : ∀ g cap w', Appended X w' 0 292 3 v (.slice (some ⟨g, 0, none⟩) (l.length + 1) cap) l.length 1 (vcells l) (vcell u) → K (a.put o.dst (.slice (some ⟨g, 0, none⟩) (l.length + 1) cap)) w') :
    if Region.wanted o (yielded ops a.tmps) = true then Oper.wp Tryz.prog o a X K Q else E := by
  subst hq
  have hw : Region.wanted o (yielded ops a.tmps) = true := by simp [Region.wanted, hgd]
  rw [if_pos hw]
  obtain ⟨i0, hi, hz0, hz1, hz2⟩ := info_parts Tryz.infoVer
  obtain ⟨v', w', hr, h2⟩ := run_append_two (P := Tryz.prog) X 290 o.type 0 292 i0 (.agg #[.int .i64 0, .bool false, .string ⟨#[]⟩]) 3 32 Tryz.underlying290 hi hz0 hz1 hz2 rfl v l.length (vcells l) hown ⟨H, 0, none⟩ 1 1 (vcell u) (by simp [vcell])
    (fun j q hq => World.news_of_block hblk j q (by simpa [vcell] using hq)) (by intro q hq; simp [vcell] at hq; rcases hq with e | e | e <;> rw [e] <;> rfl) (by omega) (by unfold maxLen; omega) (by omega) (Nat.zero_le _)
  obtain ⟨g, cap, rfl, _, _⟩ := h2.own.form (by omega)
  unfold Oper.wp execOp
  simp only [ho, resolve, invoke, builtin, Sem.run_bind, Sem.run_pure, Result.andThen_ok, List.map_toArray, List.map_cons, List.map_nil, hs, hx, hr]
  exact h g cap w' h2
theorem KSv.fresh {b : Nat} {s : Sto} {r : Roles} {uv lv : Value} {mb mv : Nat} {w : World} (h : KSv b s r uv lv mb mv w) {q : Nat} (hq : w.heap.size ≤ q) : r q = .none := by
  cases e : r q with
  | none => rfl
  | _ => have := h.dom q (by rw [e]; simp); omega
theorem Step.then {r r' : Roles} {S : Nat → Prop} {W w5 wx : World} (h : Step r W r' w5) (k : Kept S w5 wx) (hS : ∀ j, S j → W.heap.size ≤ j) : Step r W r' wx :=
  ⟨h.kept.trans k (fun j hj e => absurd (hS j e) (by omega)), h.mine⟩
/-- Behind the append. -/
structure AddA (b : Nat) (s : Sto) (r : Roles) (uv lv : Value) (mb mv : Nat) (n k : Tx) (u : Ver) (f : Value → Option Value) (W2 : World) (g cap : Nat) (w1 : World) : Prop where
  ks : KSv b s (newR r (some g) (.ver n k)) uv lv mb mv w1
  map : MapIs isTwo w1 mv f
  vf : VF w1 (newR r (some g) (.ver n k)) f s.vs
  row : vrow w1 (.slice (some ⟨g, 0, none⟩) ((s.vs n k).length + 1) cap) (s.vs n k ++ [u])
  step : Step r W2 (newR r (some g) (.ver n k)) w1
  size : W2.heap.size ≤ w1.heap.size
theorem add_app {b : Nat} {s : Sto} {r : Roles} {uv lv : Value} {mb mv : Nat} {W2 X w1 : World} (h : KSv b s r uv lv mb mv W2) (hX : Below W2.heap.size W2 X) {n k : Tx} {f : Value → Option Value} (hm : MapIs isTwo W2 mv f) (hf : VF W2 r f s.vs) {sl : Value} (hlook : s.vs n k ≠ [] → f (keyV n k) = some sl) (hr : ∀ g, sl.ownBlock = some g → r g = .ver n k) {u : Ver} {g cap : Nat}
    (ha : Appended X w1 0 292 3 sl (.slice (some ⟨g, 0, none⟩) ((s.vs n k).length + 1) cap) (s.vs n k).length 1 (vcells (s.vs n k)) (vcell u)) :
    AddA b s r uv lv mb mv n k u f W2 g cap w1 ∧ X.heap.size ≤ w1.heap.size ∧ Kept (fun q => r q = .ver n k) X w1 ∧ (∀ q, W2.heap.size ≤ q → q < X.heap.size ∨ w1.heap.size ≤ q → newR r (some g) (.ver n k) q = .none) := by
  obtain ⟨a1, a2, a3, a4⟩ := (h.below hX).app (hm.below hX) (hf.kept (Kept.of_below hX) (fun g c j e hg => by have := h.dom g (by rw [e]; simp); omega)) hlook hr ha rfl
  have hrow := ha.own
  rw [← vcells_snoc] at hrow
  refine ⟨⟨a1, a2, a3, by simpa [vrow] using hrow, (Step.of_below hX).trans a4, Nat.le_trans hX.size a4.kept.size⟩, a4.kept.size, ha.kept.mono (fun q _ e => hr q e), fun q h1 h2 => ?_⟩
  have hgl : g < w1.heap.size := a1.dom g (by show newR r (some g) (.ver n k) g ≠ _; unfold newR; rw [if_pos rfl]; simp)
  unfold newR
  by_cases e : some g = some q
  · cases e
    rcases h2 with h2 | h2
    · rcases ha.lies with h3 | h3
      · have := h.dom g (by rw [hr g h3.symm]; simp); omega
      · have : g = X.heap.size := by simpa [Value.ownBlock] using h3
        omega
    · omega
  · rw [if_neg e]
    cases hq : r q with
    | none => rfl
    | _ => have := h.dom q (by rw [hq]; simp); omega
/-- Behind the set. -/
structure AddB (b : Nat) (s : Sto) (r r' : Roles) (uv lv : Value) (mb mv : Nat) (n k : Tx) (l : List Ver) (W2 Y : World) (caps : Array Value) (w5 : World) : Prop where
  ks : KSv b (s.setVs n k l) r' uv lv mb mv w5
  step : Step r W2 r' w5
  size : Y.heap.size ≤ w5.heap.size
  wy : W2.heap.size ≤ Y.heap.size
  back : ∀ W, Kept (fun q => q < Y.heap.size ∧ r' q = .none) w5 W → Calls Tryz.prog 356 caps W fun e W' => e = .returned (.tuple #[]) ∧ KSv b s r' uv lv mb mv W' ∧ Kept (· = mv) W W'
theorem add_set {b : Nat} {s : Sto} {r : Roles} {uv lv : Value} {mb mv : Nat} {n k : Tx} {u : Ver} {f : Value → Option Value} {W2 w1 Y : World} {g cap : Nat} (h : AddA b s r uv lv mb mv n k u f W2 g cap w1) (hY : Below w1.heap.size w1 Y) {o : Option Sl} (ho : f (keyV n k) = o.map Sl.v) :
    Calls Tryz.prog 354 #[.map (some mv), .agg #[str n, str k], .slice (some ⟨g, 0, none⟩) ((s.vs n k).length + 1) cap] Y fun e w5 => ∃ caps, e = .returned (.func (.func 356) #[] caps) ∧ AddB b s r (newR r (some g) (.ver n k)) uv lv mb mv n k (s.vs n k ++ [u]) W2 Y caps w5 ∧ Kept (· = mv) Y w5 := by
  have hKY := h.ks.below hY
  have hMY := h.map.below hY
  have dom := h.ks.dom
  have hVY : VF Y (newR r (some g) (.ver n k)) f s.vs := h.vf.kept (Kept.of_below hY) (fun q c j e hg => by have := dom q (by rw [e]; simp); omega)
  have hRY := vrow.below h.row hY
  refine Calls.mono (setV_any mv n k (some ⟨g, 0, none⟩, (s.vs n k).length + 1, cap) f o Y hMY ho) ?_
  intro e w5 hs
  obtain ⟨caps, rfl, K5, k5, un⟩ := setV_beg hKY hMY hVY (by simp) hRY (fun q e => by cases e; unfold newR; rw [if_pos rfl]) hs
  refine ⟨caps, rfl, ⟨K5, ?_, k5.size, Nat.le_trans h.size hY.size, un⟩, k5⟩
  refine h.step.trans (Step.trans (Step.of_below hY) (Step.of_kept k5 (fun q e => by rw [e, hKY.rv]; simp)))
/-- At the end. -/
def AddEnd (b : Nat) (s : Sto) (r : Roles) (uv lv : Value) (mb mv : Nat) (n k : Tx) (l : List Ver) (H : Nat) (W2 : World) (fb : Nat) (wx : World) : Prop :=
  W2.heap.size ≤ fb ∧ ∃ r' caps, wx.cell? ⟨fb, 0, none⟩ = some (.func (.func 356) #[] caps) ∧ wx.cell? ⟨H, 0, none⟩ = some (.pointer (some ⟨b, 0, none⟩)) ∧ KSv b (s.setVs n k l) r' uv lv mb mv wx ∧ Step r W2 r' wx ∧
    ∀ W, Kept (fun g => g < W2.heap.size ∧ r' g = .none) wx W → Calls Tryz.prog 356 caps W fun e W' => e = .returned (.tuple #[]) ∧ KSv b s r' uv lv mb mv W' ∧ Kept (· = mv) W W'
theorem add_end {b : Nat} {s : Sto} {r r' : Roles} {uv lv : Value} {mb mv : Nat} {n k : Tx} {l : List Ver} {W2 Y w5 wx : World} {caps : Array Value} {H fb : Nat} (h : AddB b s r r' uv lv mb mv n k l W2 Y caps w5) (q : Kept (· = fb) w5 wx) (hfb : W2.heap.size ≤ fb) (hn : r' fb = .none) (hY : fb < w5.heap.size → fb < Y.heap.size)
    (hc : wx.cell? ⟨fb, 0, none⟩ = some (.func (.func 356) #[] caps)) (hH : wx.cell? ⟨H, 0, none⟩ = some (.pointer (some ⟨b, 0, none⟩))) : AddEnd b s r uv lv mb mv n k l H W2 fb wx := by
  refine ⟨hfb, r', caps, hc, hH, h.ks.kept q (fun g e hg => e (by rw [hg]; exact hn)), h.step.then q (fun j e => by rw [e]; exact hfb), fun W hW => ?_⟩
  refine h.back W ((q.mono (T := fun q => q < Y.heap.size ∧ r' q = .none) (fun j hj e => ⟨by rw [e]; exact hY (by rw [← e]; exact hj), by rw [e]; exact hn⟩)).trans hW (fun j hj e => ⟨by have := e.1; have := h.wy; omega, e.2⟩))
set_option maxHeartbeats 4000000 in
set_option maxRecDepth 20000 in
theorem add_any (b : Nat) (s : Sto) (r : Roles) (n k : Tx) (mark : Bool) (y : Tx) (w : World) (h : KS b s r w) (F : Fine s) (hk : k.length ≤ 1000000) :
    Calls Tryz.prog 353 #[.pointer (some ⟨b, 0, none⟩), .agg #[str n, str k], .agg #[.int .i64 0, .bool mark, str y]] w (begPost b s r w (s.adds n k mark y)) := by
  obtain ⟨uv, lv, mb, mv, h⟩ := h
  have hb := h.blt
  have HBG : Hid (s.adds n k mark y = match s.bk n with
      | none => .error 404
      | some _ => if keyP k = true then .ok (s.add n k mark y) else .error 400) := rfl
  have R404 : Hid (∀ w, Calls Tryz.prog 80 #[.int .i64 404, .nilIface] w fun e w' => e = .returned (.iface 148 (.agg #[.int .i64 404, .nilIface])) ∧ w = w') := fun w => refuse_any 404 .nilIface (.inl rfl) w
  have R400 : Hid (∀ w, Calls Tryz.prog 80 #[.int .i64 400, .nilIface] w fun e w' => e = .returned (.iface 148 (.agg #[.int .i64 400, .nilIface])) ∧ w = w') := fun w => refuse_any 400 .nilIface (.inl rfl) w
  have IK : Hid (_) := fun w => isKey_any k w hk
  have hlast : s.last ≤ 100000 := Nat.le_trans F.last F.log
  obtain ⟨W0, hW0⟩ : ∃ W0, W0 = ((w.alloc (.cells #[.pointer (some ⟨b, 0, none⟩)] 87)).alloc (.cells #[str n, str k] 289)).alloc (.cells (vcellsA 0 mark y) 292) := ⟨_, rfl⟩
  have B0 : Below w.heap.size w W0 := by rw [hW0]; exact (((Below.refl _ _).alloc (Nat.le_refl _) _).alloc (by simp) _).alloc (by simp; omega) _
  have h0 := h.below B0
  have S0 : W0.heap.size = w.heap.size + 1 + 1 + 1 := by rw [hW0]; simp
  have c3 := h0.c3
  have y0 : W0.cell? ⟨w.heap.size, 0, none⟩ = some (.pointer (some ⟨b, 0, none⟩)) := by rw [hW0]; simp [go_sem]
  have y1 : W0.cell? ⟨w.heap.size + 1, 0, none⟩ = some (str n) := by rw [hW0]; simp [go_sem]
  have y2 : W0.cell? ⟨w.heap.size + 1, 1, none⟩ = some (str k) := by rw [hW0]; simp [go_sem]
  have y3 : W0.heap[w.heap.size + 1 + 1]? = some (.cells (vcellsA 0 mark y) 292) := by
    have e : ((w.alloc (.cells #[.pointer (some ⟨b, 0, none⟩)] 87)).alloc (.cells #[str n, str k] 289)).heap.size = w.heap.size + 1 + 1 := by simp
    rw [hW0, ← e]; exact heap_alloc_new _ _
  have HW0 : Hid (W0 = ((w.alloc (.cells #[.pointer (some ⟨b, 0, none⟩)] 87)).alloc (.cells #[str n, str k] 289)).alloc (.cells (vcellsA 0 mark y) 292)) := hW0
  clear hW0
  obtain ⟨f, hf, _, hcase⟩ := h0.bk.find2 n
  have n1 : ¬ b = w.heap.size := by omega
  have za : ∀ ob, (W0.alloc ob).cell? ⟨w.heap.size, 0, none⟩ = some (.pointer (some ⟨b, 0, none⟩)) := fun ob => cell_alloc y0 ob
  have zb : ∀ ob, (W0.alloc ob).cell? ⟨w.heap.size + 1, 0, none⟩ = some (str n) := fun ob => cell_alloc y1 ob
  have zb2 : ∀ ob, (W0.alloc ob).cell? ⟨w.heap.size + 1, 1, none⟩ = some (str k) := fun ob => cell_alloc y2 ob
  have zc : ∀ ob, (W0.alloc ob).cell? ⟨b, 3, none⟩ = some (.map (some mb)) := fun ob => cell_alloc c3 ob
  have ZB := zeroB
  have HH : Hid (KSv b s r uv lv mb mv w) := h
  have HH0 : Hid (KSv b s r uv lv mb mv W0) := h0
  clear h h0
  rcases hcase with ⟨hn, hfn⟩ | ⟨x, sl, hx, hfx, hp⟩
  · rw [hn] at HBG
    have LA : (Instr.lookup 122 (.map (some mb)) (str n) true).run Tryz.prog W0.drew = .ok (.tuple #[.agg #[.string ⟨#[]⟩, .string ⟨#[]⟩, .slice none 0 0], .bool false]) W0.drew := by
      rw [hf.drew.look strKeys Tryz.underlying122 true (zeroB _) ⟨_, rfl⟩, hfn]; rfl
    have LB : ∀ ob, (Instr.lookup 122 (.map (some mb)) (str n) true).run Tryz.prog (W0.alloc ob).drew = .ok (.tuple #[.agg #[.string ⟨#[]⟩, .string ⟨#[]⟩, .slice none 0 0], .bool false]) (W0.alloc ob).drew := fun ob => by
      rw [(hf.alloc ob).drew.look strKeys Tryz.underlying122 true (zeroB _) ⟨_, rfl⟩, hfn]; rfl
    clear hf hfn
    go_enter Tryz.func353, Tryz.ntmps353
    go_wp2_with fail
    rw [show ((w.alloc (.cells #[.pointer (some ⟨b, 0, none⟩)] 87)).alloc (.cells #[str n, str k] 289)).alloc (.cells #[.int .i64 0, .bool mark, str y] 292) = W0 from HW0.out.symm]
    go_region
    all_goals go_wp2_with (go_at_call 80; refine (R404.out _).mono ?_; rintro e w' ⟨rfl, rfl⟩)
    all_goals go_ret2
    all_goals exact begPost_no HBG.out rfl (B0.alloc B0.size _).drew
  · rw [hx] at HBG
    obtain ⟨sa, sn, sc⟩ := sl
    have LA : (Instr.lookup 122 (.map (some mb)) (str n) true).run Tryz.prog W0.drew = .ok (.tuple #[.agg #[str x.owner, str x.policy, .slice sa sn sc], .bool true]) W0.drew := by
      rw [hf.drew.look strKeys Tryz.underlying122 true (zeroB _) ⟨_, rfl⟩, hfx]; rfl
    have LB : ∀ ob, (Instr.lookup 122 (.map (some mb)) (str n) true).run Tryz.prog (W0.alloc ob).drew = .ok (.tuple #[.agg #[str x.owner, str x.policy, .slice sa sn sc], .bool true]) (W0.alloc ob).drew := fun ob => by
      rw [(hf.alloc ob).drew.look strKeys Tryz.underlying122 true (zeroB _) ⟨_, rfl⟩, hfx]; rfl
    clear hf hfx hp
    go_enter Tryz.func353, Tryz.ntmps353
    go_wp2_with fail
    rw [show ((w.alloc (.cells #[.pointer (some ⟨b, 0, none⟩)] 87)).alloc (.cells #[str n, str k] 289)).alloc (.cells #[.int .i64 0, .bool mark, str y] 292) = W0 from HW0.out.symm]
    go_region
    go_wp2_with fail
    refine (IK.out _).mono ?_
    rintro e w' ⟨rfl, rfl⟩
    have BA : Below W0.heap.size W0 (W0.alloc (.cells #[str x.owner, str x.policy, .slice sa sn sc] 162)).drew := ((Below.refl _ _).alloc (Nat.le_refl _) _).drew
    replace y0 : (W0.alloc (.cells #[str x.owner, str x.policy, .slice sa sn sc] 162)).drew.cell? ⟨w.heap.size, 0, none⟩ = some (.pointer (some ⟨b, 0, none⟩)) := za _
    replace y1 : (W0.alloc (.cells #[str x.owner, str x.policy, .slice sa sn sc] 162)).drew.cell? ⟨w.heap.size + 1, 0, none⟩ = some (str n) := zb _
    replace y2 : (W0.alloc (.cells #[str x.owner, str x.policy, .slice sa sn sc] 162)).drew.cell? ⟨w.heap.size + 1, 1, none⟩ = some (str k) := zb2 _
    clear LA LB za zb zb2 zc c3
    generalize (W0.alloc (.cells #[str x.owner, str x.policy, .slice sa sn sc] 162)).drew = WA at *
    have BW := below_trans B0 BA
    generalize keyP k = kp at *
    cases kp with
    | false =>
      rw [if_neg (by simp)] at HBG
      go_wp2_with (go_at_call 80; refine (R400.out _).mono ?_; rintro e w' ⟨rfl, rfl⟩)
      go_ret2
      exact begPost_no HBG.out rfl BW
    | true =>
      rw [if_pos rfl] at HBG
      have hA := HH0.out.below BA
      have c5 := hA.c5
      have f5 := hA.fz 5
      replace y3 : WA.heap[w.heap.size + 1 + 1]? = some (.cells (vcellsA 0 mark y) 292) := (BA.block _ (by omega)).trans y3
      have v0 : WA.cell? ⟨w.heap.size + 1 + 1, 0, none⟩ = some (.int .i64 0) := by simp [World.cell?, y3]
      have g0 : WA.frozen? ⟨w.heap.size + 1 + 1, 0, none⟩ = false := by simp [World.frozen?, y3]
      have HA : Hid (KSv b s r uv lv mb mv WA) := hA
      have Y3 : Hid (WA.heap[w.heap.size + 1 + 1]? = some (.cells (vcellsA 0 mark y) 292)) := y3
      clear hA y3
      have eN : ((s.last + 1 : Nat) : Int) = (s.last : Int) + 1 := by omega
      have z0 := BW.size; have zz := BA.size
      have K1 := (HA.out.setLast (s.last + 1)).1
      have k1 := (HA.out.setLast (s.last + 1)).2
      rw [eN] at K1 k1
      have k2 : Kept (· = w.heap.size + 1 + 1) (WA.setCell ⟨b, 5, none⟩ (.int .i64 ((s.last : Int) + 1))) ((WA.setCell ⟨b, 5, none⟩ (.int .i64 ((s.last : Int) + 1))).setCell ⟨w.heap.size + 1 + 1, 0, none⟩ (.int .i64 ((s.last : Int) + 1))) := Kept.of_grown1 (grown_set _ _ _ _)
      have K2 := K1.kept k2 (fun g e hg => by have := HH.out.dom g e; omega)
      have X0 : addS b mv w.heap.size n k ((s.last : Int) + 1) mark y ((WA.setCell ⟨b, 5, none⟩ (.int .i64 ((s.last : Int) + 1))).setCell ⟨w.heap.size + 1 + 1, 0, none⟩ (.int .i64 ((s.last : Int) + 1))) := by
        have v1 : WA.cell? ⟨w.heap.size + 1 + 1, 1, none⟩ = some (.bool mark) := by simp [World.cell?, Y3.out]
        have v2 : WA.cell? ⟨w.heap.size + 1 + 1, 2, none⟩ = some (str y) := by simp [World.cell?, Y3.out]
        have m1 : ¬ w.heap.size + 1 + 1 = b := by omega
        have m2 : ¬ b = w.heap.size + 1 + 1 := by omega
        have m3 : ¬ w.heap.size = b := by omega
        have m4 : ¬ w.heap.size + 1 = b := by omega
        refine ⟨?_, K2.c4, ?_, ?_, ?_, ?_, ?_⟩
        · simp [go_sem, y0]
        · simp [go_sem, y1]
        · simp [go_sem, y2]
        · simp [go_sem, v0]
        · simp [go_sem, v1]
        · simp [go_sem, v2]
      have Z2 : ((WA.setCell ⟨b, 5, none⟩ (.int .i64 ((s.last : Int) + 1))).setCell ⟨w.heap.size + 1 + 1, 0, none⟩ (.int .i64 ((s.last : Int) + 1))).heap.size = WA.heap.size := by simp
      have T2 : Step r w r ((WA.setCell ⟨b, 5, none⟩ (.int .i64 ((s.last : Int) + 1))).setCell ⟨w.heap.size + 1 + 1, 0, none⟩ (.int .i64 ((s.last : Int) + 1))) := ((Step.of_below BW).trans (Step.of_kept k1 (fun g e => by rw [e, HH.out.rb]; simp))).then k2 (fun j e => by omega)
      go_wp2_with fail
      clear k1 k2 K1 v0 g0 c5 f5 y0 y1 y2 Y3 HA
      generalize (WA.setCell ⟨b, 5, none⟩ (.int .i64 ((s.last : Int) + 1))).setCell ⟨w.heap.size + 1 + 1, 0, none⟩ (.int .i64 ((s.last : Int) + 1)) = W2 at *
      obtain ⟨f, hm, hvf, sl, o, hfo, hlk, hrow, hrr, hne, hem⟩ := K2.vs.find2 n k
      obtain ⟨va, vn, vc⟩ := sl
      dsimp only at hrow hne hem hvf
      have hlook : s.vs n k ≠ [] → f (keyV n k) = some (.slice va vn vc) := fun e => by rw [hfo, hne e]; rfl
      have LK : ∀ X, MapIs isTwo X mv f → (Instr.lookup 123 (.map (some mv)) (.agg #[str n, str k]) false).run Tryz.prog X = .ok (.slice va vn vc) X := fun X hX => by
        rw [hX.look placeKeys Tryz.underlying123 false (zeroV _) ⟨_, _, rfl⟩, hlk]
      have L0 := LK W2.drew hm.drew
      have L1 := fun ob => LK (W2.alloc ob).drew (hm.alloc ob).drew
      have L2 := fun ob ob' => LK ((W2.alloc ob).alloc ob').drew ((hm.alloc ob).alloc ob').drew
      have xd : addS b mv w.heap.size n k ((s.last : Int) + 1) mark y W2.drew := X0
      have xa : ∀ ob, addS b mv w.heap.size n k ((s.last : Int) + 1) mark y (W2.alloc ob).drew := fun ob => addS.alloc X0 ob
      have xaa : ∀ ob ob', addS b mv w.heap.size n k ((s.last : Int) + 1) mark y ((W2.alloc ob).alloc ob').drew := fun ob ob' => addS.alloc (addS.alloc X0 ob) ob'
      have hlen : (s.vs n k).length ≤ 1000000000 := by have := (F.vs n k).1; omega
      have b1 : ∀ ob, Below W2.heap.size W2 (W2.alloc ob).drew := fun ob => ((Below.refl _ _).alloc (Nat.le_refl _) _).drew
      have b2 : ∀ ob ob', Below W2.heap.size W2 ((W2.alloc ob).alloc ob').drew := fun ob ob' => (((Below.refl _ _).alloc (Nat.le_refl _) _).alloc (by simp) _).drew
      have hmv : mv < w.heap.size := HH.out.dom mv (by rw [HH.out.rv]; simp)
      have nmb : ¬ b = mv := fun e => by have := HH.out.rv; rw [← e, HH.out.rb] at this; cases this
      have hrw : r (w.heap.size) = .none ∧ r (w.heap.size + 1) = .none ∧ r (w.heap.size + 1 + 1) = .none := by
        refine ⟨?_, ?_, ?_⟩
        · cases hq : r w.heap.size with
          | none => rfl
          | _ => have := HH.out.dom w.heap.size (by rw [hq]; simp); omega
        · cases hq : r (w.heap.size + 1) with
          | none => rfl
          | _ => have := HH.out.dom (w.heap.size + 1) (by rw [hq]; simp); omega
        · cases hq : r (w.heap.size + 1 + 1) with
          | none => rfl
          | _ => have := HH.out.dom (w.heap.size + 1 + 1) (by rw [hq]; simp); omega
      have AF : Hid (∀ X, Below W2.heap.size W2 X → addS b mv w.heap.size n k ((s.last : Int) + 1) mark y X → ∀ g cap w1, Appended X w1 0 292 3 (.slice va vn vc) (.slice (some ⟨g, 0, none⟩) ((s.vs n k).length + 1) cap) (s.vs n k).length 1 (vcells (s.vs n k)) (vcell ⟨s.last + 1, mark, y⟩) →
          addS b mv w.heap.size n k ((s.last : Int) + 1) mark y w1 ∧ AddA b { s with last := s.last + 1 } r uv lv mb mv n k ⟨s.last + 1, mark, y⟩ f W2 g cap w1 ∧ Kept (fun q => r q = .ver n k) X w1 ∧ (∀ q, W2.heap.size ≤ q → q < X.heap.size ∨ w1.heap.size ≤ q → newR r (some g) (.ver n k) q = .none)) := fun X hX hS g cap w1 ha => by
        obtain ⟨a1, a2, a3, a4⟩ := add_app (s := { s with last := s.last + 1 }) K2 hX hm hvf hlook hrr ha
        exact ⟨hS.kept a3 (by rw [hrw.1]; simp) (by rw [HH.out.rb]; simp) (by rw [hrw.2.1]; simp) (by rw [hrw.2.2]; simp), a1, a3, a4⟩
      have SV : Hid (∀ w1 g cap, AddA b { s with last := s.last + 1 } r uv lv mb mv n k ⟨s.last + 1, mark, y⟩ f W2 g cap w1 → addS b mv w.heap.size n k ((s.last : Int) + 1) mark y w1 → ∀ Y, Below w1.heap.size w1 Y → Calls Tryz.prog 354 #[.map (some mv), .agg #[str n, str k], .slice (some ⟨g, 0, none⟩) ((s.vs n k).length + 1) cap] Y fun e w5 => ∃ caps, e = .returned (.func (.func 356) #[] caps) ∧ AddB b { s with last := s.last + 1 } r (newR r (some g) (.ver n k)) uv lv mb mv n k (s.vs n k ++ [⟨s.last + 1, mark, y⟩]) W2 Y caps w5 ∧ Kept (· = mv) Y w5 ∧ addS b mv w.heap.size n k ((s.last : Int) + 1) mark y w5) := fun w1 g cap hA hS Y hY =>
        Calls.mono (add_set (s := { s with last := s.last + 1 }) hA hY hfo) fun e w5 h => by
          obtain ⟨caps, e1, e2, e3⟩ := h
          have hl : w.heap.size + 1 + 1 < w1.heap.size := by have := hA.size; omega
          exact ⟨caps, e1, e2, e3, (hS.kept (Kept.of_below hY) (by omega) (by omega) (by omega) (by omega)).kept e3 (show ¬ w.heap.size = mv by omega) nmb (show ¬ w.heap.size + 1 = mv by omega) (show ¬ w.heap.size + 1 + 1 = mv by omega)⟩
      have HROW : Hid (vrow W2 (.slice va vn vc) (s.vs n k)) := hrow
      have HX0 : Hid (addS b mv w.heap.size n k ((s.last : Int) + 1) mark y W2) := X0
      have hbl : w.heap.size + 1 + 1 < W2.heap.size ∧ b < w.heap.size := ⟨by omega, hb⟩
      have H1 : ∀ ob, (W2.alloc ob).drew.heap[W2.heap.size]? = some ob := fun ob => heap_alloc_new _ _
      have H2 : ∀ ob ob', ((W2.alloc ob).alloc ob').drew.heap[W2.heap.size]? = some ob := fun ob ob' => (((Below.refl (W2.alloc ob).heap.size (W2.alloc ob)).alloc (Nat.le_refl _) ob').block W2.heap.size (by simp)).trans (heap_alloc_new _ _)
      have H3 : ∀ ob ob', ((W2.alloc ob).alloc ob').drew.heap[W2.heap.size + 1]? = some ob' := fun ob ob' => by
        have := heap_alloc_new (W2.alloc ob) ob'
        rwa [show (W2.alloc ob).heap.size = W2.heap.size + 1 by simp] at this
      have hR : ∀ q, W2.heap.size ≤ q → ¬ r q = .ver n k := fun q hq e => by have := HH.out.dom q (by rw [e]; simp); omega
      have cX3 : ∀ ob', ((W2.alloc (.cells #[.nilFunc] 1)).alloc ob').drew.cell? ⟨W2.heap.size, 0, none⟩ = some .nilFunc := fun ob' => cell_alloc (show (W2.alloc (.cells #[.nilFunc] 1)).cell? ⟨W2.heap.size, 0, none⟩ = some .nilFunc by simp [go_sem]) ob'
      have fX3 : ∀ ob', ((W2.alloc (.cells #[.nilFunc] 1)).alloc ob').drew.frozen? ⟨W2.heap.size, 0, none⟩ = false := fun ob' => ((Kept.refl (fun _ => False) (W2.alloc (.cells #[.nilFunc] 1))).alloc ob').frozen (a := ⟨W2.heap.size, 0, none⟩) (by simp) (by simp [go_sem]) (fun e => e)
      have lt2 : ∀ ob ob', W2.heap.size < ((W2.alloc ob).alloc ob').drew.heap.size := fun ob ob' => by simp; omega
      have ba1 : ∀ (w1 : World) ob, Below w1.heap.size w1 (w1.alloc ob) := fun w1 ob => (Below.refl _ _).alloc (Nat.le_refl _) _
      clear Z2 X0 hrow hlook hvf hlk hfo hne hem LK K2 hrw hm
      go_cut [10] from 41 to 55 (fun v wx => ∃ fb, v = .pointer (some ⟨fb, 0, none⟩) ∧ AddEnd b { s with last := s.last + 1 } r uv lv mb mv n k (s.vs n k ++ [⟨s.last + 1, mark, y⟩]) w.heap.size W2 fb wx)
      case first =>
        go_region_held_law (fun w' => w'.cell? ⟨w.heap.size, 0, none⟩ = some (.pointer (some ⟨b, 0, none⟩)) ∧ w'.cell? ⟨b, 4, none⟩ = some (.map (some mv)) ∧ w'.cell? ⟨w.heap.size + 1, 0, none⟩ = some (str n) ∧ w'.cell? ⟨w.heap.size + 1, 1, none⟩ = some (str k) ∧ w'.cell? ⟨w.heap.size + 1 + 1, 0, none⟩ = some (.int .i64 ((s.last : Int) + 1)) ∧ w'.cell? ⟨w.heap.size + 1 + 1, 1, none⟩ = some (.bool mark) ∧ w'.cell? ⟨w.heap.size + 1 + 1, 2, none⟩ = some (str y))
          (first | with_reducible exact xd | with_reducible exact xa _ | with_reducible exact xaa _ _ | with_reducible exact x1 | with_reducible exact addS.alloc x1 _ | with_reducible exact x5 | with_reducible exact addS.alloc x5 _ | with_reducible exact addS.set x5 (by have := A1.size; omega) _ | with_reducible exact addS.set (addS.alloc x5 _) (by have := A1.size; have := B5.size; omega) _)
          (first
            | (refine verapp_step rfl _ _ rfl (s.vs n k) ⟨s.last + 1, mark, y⟩ _ rfl (vrow.below HROW.out (b1 _)) W2.heap.size rfl (0, 0) ((s.last : Int) + 1) eN.symm (H1 _) hlen ?_; intro g cap w1 hap; obtain ⟨x1, A1, z1, n1'⟩ := AF.out _ (b1 _) (xa _) g cap w1 hap; have zz1 := A1.size)
            | (refine verapp_step rfl _ _ rfl (s.vs n k) ⟨s.last + 1, mark, y⟩ _ rfl (vrow.below HROW.out (b2 _ _)) W2.heap.size rfl (0, 0) ((s.last : Int) + 1) eN.symm (H2 _ _) hlen ?_; intro g cap w1 hap; obtain ⟨x1, A1, z1, n1'⟩ := AF.out _ (b2 _ _) (xaa _ _) g cap w1 hap; have zz1 := A1.size; have cF : w1.cell? ⟨W2.heap.size + 1, 0, none⟩ = some .nilFunc := z1.cell (by simp [go_sem]) (hR _ (by simp)); have fF : w1.frozen? ⟨W2.heap.size + 1, 0, none⟩ = false := z1.frozen (by simp) (by simp [go_sem]) (hR _ (by simp)); have nF : newR r (some g) (.ver n k) (W2.heap.size + 1) = .none := n1' _ (by simp) (.inl (by simp)))
            | (refine verapp_step rfl _ _ rfl (s.vs n k) ⟨s.last + 1, mark, y⟩ _ rfl (vrow.below HROW.out (b2 _ _)) (W2.heap.size + 1) rfl (0, 0) ((s.last : Int) + 1) eN.symm (H3 _ _) hlen ?_; intro g cap w1 hap; obtain ⟨x1, A1, z1, n1'⟩ := AF.out _ (b2 _ _) (xaa _ _) g cap w1 hap; have zz1 := A1.size; have cF : w1.cell? ⟨W2.heap.size, 0, none⟩ = some .nilFunc := z1.cell (cX3 _) (hR _ (by simp)); have fF : w1.frozen? ⟨W2.heap.size, 0, none⟩ = false := z1.frozen (lt2 _ _) (fX3 _) (hR _ (by simp)); have nF : newR r (some g) (.ver n k) (W2.heap.size) = .none := n1' _ (by simp) (.inl (lt2 _ _)))
            | (go_at_call 354; with_reducible refine Calls.mono (SV.out _ _ _ A1 x1 _ (Below.refl _ _)) ?_; rintro e w5 ⟨caps, rfl, B5, k5, x5⟩; have zz5 := B5.size; try (have cF5 := k5.cell cF (by simp only; omega); have fF5 := k5.frozen (World.block_lt_of_cell? _ _ cF) fF (by simp only; omega)))
            | (go_at_call 354; with_reducible refine Calls.mono (SV.out _ _ _ A1 x1 _ (ba1 _ _)) ?_; rintro e w5 ⟨caps, rfl, B5, k5, x5⟩; have zz5 : w1.heap.size + 1 ≤ w5.heap.size := (by have := B5.size; simpa using this); have cF5 : w5.cell? ⟨w1.heap.size, 0, none⟩ = some .nilFunc := k5.cell (by simp [go_sem]) (by simp only; omega); have fF5 : w5.frozen? ⟨w1.heap.size, 0, none⟩ = false := k5.frozen (by simp) (by simp [go_sem]) (by simp only; omega); have nF := n1' w1.heap.size zz1 (.inr (Nat.le_refl _))))
        all_goals go_wp2_with fail
        all_goals go_meet
        all_goals first
          | with_reducible exact ⟨_, rfl, add_end B5 ((Kept.refl _ _).alloc _) (by omega) (B5.ks.fresh (Nat.le_refl _)) (fun h => absurd h (Nat.lt_irrefl _)) (by simp [go_sem]) (cell_alloc x5.1 _)⟩
          | with_reducible exact ⟨_, rfl, add_end B5 (Kept.of_grown1 (grown_set _ _ _ _)) (by omega) nF (fun _ => World.block_lt_of_cell? _ _ cF) (by simp [go_sem, cF5]) ((addS.set x5 (by omega) _).1)⟩
          | with_reducible exact ⟨_, rfl, add_end B5 (Kept.of_grown1 (grown_set _ _ _ _)) (by omega) nF (fun _ => by simp) (by simp [go_sem, cF5]) ((addS.set x5 (by omega) _).1)⟩
      case rest =>
        obtain ⟨fb, rfl, hfb, r', caps, e1, e2, K, st, un⟩ := hcut
        have HB2 : Hid (Undo b s r' wc w.heap.size 355 #[.pointer (some ⟨fb, 0, none⟩), .pointer (some ⟨w.heap.size, 0, none⟩)]) := fun W hW => by
          refine Calls.mono (addBack_any (s := s) (by omega) (show ¬ w.heap.size = mv by omega) (un W (hW.mono (fun g _ e => ⟨by have := e.1; omega, e.2⟩))) (hW.cell e1 (fun e => by have : fb < w.heap.size := e.1; omega)) (hW.cell e2 (fun e => by have : w.heap.size < w.heap.size := e.1; omega))) ?_
          rintro e W' ⟨rfl, h2, h3⟩
          exact ⟨rfl, ⟨_, _, _, _, h2⟩, Step.of_kept h3 (fun g e => by rcases e with e | e; (rw [e, K.rv]; simp); (rw [e, K.rb]; simp))⟩
        have HK : Hid (KS b (s.add n k mark y) r' wc ∧ Step r w r' wc) := ⟨⟨_, _, _, _, K⟩, T2.trans st⟩
        have hmf : ∀ (fn : Fn) (first cap : Array Value) (w : World), (Instr.makeFunc fn first cap).run Tryz.prog w = .ok (.func fn first cap) w := fun _ _ _ _ => rfl
        clear K st un e1 e2 T2 AF SV L0 L1 L2 xd xa xaa b1 b2 H1 H2 H3 hR cX3 fX3 lt2 ba1
        go_wp2
        go_ret2
        exact begPost_ok HBG.out (enters_of Tryz.func355 (by kernel_rfl) rfl) HK.out.1 HK.out.2 HB2.out
end Go.Proofs.YtbllcgibmgbnjaaGreatDoor.P
