/-
  KDen3, KSgn4, KDen4, KEnv, KLaid.
-/
import Derived.Test.YtbllcgibmgbnjaaGreatDoorM26
import Derived.Test.YtbllcgibmgbnjaaGreatDoorRows
import Derived.Test.YtbllcgibmgbnjaaGreatDoorM13
import Derived.WalkKit
import Derived.ProofKit
import Derived.OpenShut
import Derived.Lib.LaidTab
import Derived.Stop.LaidErr
import Derived.LaidHandle
import Derived.Test.YtbllcgibmgbnjaaGreatDoorChecked
namespace Go.Proofs.YtbllcgibmgbnjaaGreatDoor.P

/-- An ask and what it must answer. -/
structure AskD where
  bo : Bool
  m : Tx
  tg : Tx
  y : Tx
  want : Tx
abbrev rNo : Tx := respT 403 [] []
abbrev rFine : Tx := respT 200 [] []
def rPut (n : Nat) : Tx := respT 200 [(tVersion, Lib.itoa (n : Int))] []
def rGot (n : Nat) (y : Tx) : Tx := respT 200 [(tVersion, Lib.itoa (n : Int)), (tLength, lenT y)] y
def denL (k y : Tx) : List AskD := [
  ⟨false, tPUT, kT k, y, rPut 1⟩, ⟨true, tGET, kT k, [], rNo⟩, ⟨true, tPUT, kT k, y, rNo⟩, ⟨true, tGET, tABox, [], rNo⟩,
  ⟨true, tPUT, tPolicy, allowT, rNo⟩, ⟨false, tPUT, tPolicy, allowT, rFine⟩, ⟨true, tGET, kT k, [], rGot 1 y⟩, ⟨true, tPUT, kT k, y, rNo⟩, ⟨true, tDEL, kT k, [], rNo⟩,
  ⟨false, tPUT, tPolicy, denyT, rFine⟩, ⟨true, tGET, kT k, [], rNo⟩, ⟨false, tGET, kT k, [], rNo⟩, ⟨true, tPUT, kT k, y, rPut 2⟩,
  ⟨false, tDEL, tPolicy, [], rFine⟩, ⟨false, tGET, kT k, [], rGot 2 y⟩, ⟨true, tGET, kT k, [], rNo⟩]
def AskD.u (a : AskD) : Tx := if a.bo = true then tBo else tAl
def AskD.sec (a : AskD) : Tx := if a.bo = true then sBo else sAl
def AskD.ans (a : AskD) (s : Sto) : Tx × Sto := askT a.u a.sec s a.m a.tg a.y
/-- Each is answered as it must be, and is no list. -/
def GoodD : Sto → List AskD → Prop
  | _, [] => True
  | s, a :: l => ((a.ans s).1 = a.want ∧ noList two 5000 s (headT a.u a.sec 5000 a.m a.tg a.y) ∧ (headT a.u a.sec 5000 a.m a.tg a.y).length ≤ 2000) ∧ GoodD (a.ans s).2 l
theorem says_allow_get (k : Tx) : saysP allowR tBo sGet k = 1 := by simp [saysP, allowR, speaksP, inL, like_all, sAll, sGet]
theorem says_allow_put (k : Tx) : saysP allowR tBo sPut k = 0 := by simp [saysP, allowR, speaksP, inL, sAll, sGet, sPut]
theorem says_allow_del (k : Tx) : saysP allowR tBo sDelete k = 0 := by simp [saysP, allowR, speaksP, inL, sAll, sGet, sDelete]
theorem says_allow_al : saysP allowR tAl sPolicy [] ≠ 2 := by simp [saysP, allowR, speaksP, inL, sAll, sGet, sPolicy]
theorem says_deny_get {k : Tx} (h : k ≠ []) (u : Tx) : saysP denyR u sGet k = 2 := by simp [saysP, denyR, speaksP, inL, sAll, sGet, like_some h]
theorem says_deny_put (k : Tx) : saysP denyR tBo sPut k = 1 := by simp [saysP, denyR, speaksP, inL, sAll, sGet, sPut, like_all]
theorem says_deny_al : saysP denyR tAl sPolicy [] ≠ 2 := by simp [saysP, denyR, speaksP, inL, sAll, sGet, sPolicy]
theorem key_ne {k : Tx} (h : keyP k = true) : k ≠ [] := fun e => by rw [e] at h; exact absurd h (by decide)
/-- A refusal: nothing changes. -/
theorem goodD_no {s : Sto} {a : AskD} {l : List AskD} {u : Tx} {q : AskP} (h : readP two 5000 (headT a.u a.sec 5000 a.m a.tg a.y) = .ok (u, q)) (hm : mayP s u q = 403) (hw : a.want = rNo) (hl : GoodD s l) : GoodD s (a :: l) := by
  have e : a.ans s = (respT 403 [] [], s) := ds_no h hm
  refine ⟨⟨by rw [e, hw], fun p hp hmay => ?_, readlen (.inl ⟨_, h⟩)⟩, by rw [e]; exact hl⟩
  rw [h] at hp; cases hp
  exact absurd (hm.symm.trans hmay) (by decide)
/-- What is done. -/
theorem goodD_do {s : Sto} {a : AskD} {l : List AskD} {u : Tx} {q : AskP} (h : readP two 5000 (headT a.u a.sec 5000 a.m a.tg a.y) = .ok (u, q)) (hk : q.kind ≠ 4) (hw : (a.ans s).1 = a.want) (hl : GoodD (a.ans s).2 l) : GoodD s (a :: l) :=
  ⟨⟨hw, noList_of h hk, readlen (.inl ⟨_, h⟩)⟩, hl⟩
theorem ans_al (m tg y want : Tx) (s : Sto) : AskD.ans ⟨false, m, tg, y, want⟩ s = askT tAl sAl s m tg y := rfl
theorem ans_bo (m tg y want : Tx) (s : Sto) : AskD.ans ⟨true, m, tg, y, want⟩ s = askT tBo sBo s m tg y := rfl
theorem al_do {s : Sto} {m tg y want : Tx} {l : List AskD} {u : Tx} {q : AskP} (h : readP two 5000 (headT tAl sAl 5000 m tg y) = .ok (u, q)) (hk : q.kind ≠ 4) (hw : (askT tAl sAl s m tg y).1 = want) (hl : GoodD (askT tAl sAl s m tg y).2 l) : GoodD s (⟨false, m, tg, y, want⟩ :: l) :=
  goodD_do (a := ⟨false, m, tg, y, want⟩) h hk (by rw [ans_al]; exact hw) (by rw [ans_al]; exact hl)
theorem bo_do {s : Sto} {m tg y want : Tx} {l : List AskD} {u : Tx} {q : AskP} (h : readP two 5000 (headT tBo sBo 5000 m tg y) = .ok (u, q)) (hk : q.kind ≠ 4) (hw : (askT tBo sBo s m tg y).1 = want) (hl : GoodD (askT tBo sBo s m tg y).2 l) : GoodD s (⟨true, m, tg, y, want⟩ :: l) :=
  goodD_do (a := ⟨true, m, tg, y, want⟩) h hk (by rw [ans_bo]; exact hw) (by rw [ans_bo]; exact hl)
theorem al_no {s : Sto} {m tg y : Tx} {l : List AskD} {u : Tx} {q : AskP} (h : readP two 5000 (headT tAl sAl 5000 m tg y) = .ok (u, q)) (hm : mayP s u q = 403) (hl : GoodD s l) : GoodD s (⟨false, m, tg, y, rNo⟩ :: l) :=
  goodD_no (a := ⟨false, m, tg, y, rNo⟩) h hm rfl hl
theorem bo_no {s : Sto} {m tg y : Tx} {l : List AskD} {u : Tx} {q : AskP} (h : readP two 5000 (headT tBo sBo 5000 m tg y) = .ok (u, q)) (hm : mayP s u q = 403) (hl : GoodD s l) : GoodD s (⟨true, m, tg, y, rNo⟩ :: l) :=
  goodD_no (a := ⟨true, m, tg, y, rNo⟩) h hm rfl hl
theorem nb : tBo ≠ tAl := by decide
theorem la : allowT.length ≤ 300 := by decide
theorem ld : denyT.length ≤ 300 := by decide
theorem put_is (n : Nat) : rPut n = respT 200 [(tVersion, Lib.itoa (n : Int))] [] := rfl
theorem got_is (n : Nat) (y : Tx) : rGot n y = respT 200 [(tVersion, Lib.itoa (n : Int)), (tLength, lenT y)] y := rfl
def den4 (k y : Tx) : List AskD := [⟨false, tDEL, tPolicy, [], rFine⟩, ⟨false, tGET, kT k, [], rGot 2 y⟩, ⟨true, tGET, kT k, [], rNo⟩]
def den3 (k y : Tx) : List AskD := ⟨true, tGET, kT k, [], rNo⟩ :: ⟨false, tGET, kT k, [], rNo⟩ :: ⟨true, tPUT, kT k, y, rPut 2⟩ :: den4 k y
def den2 (k y : Tx) : List AskD := ⟨true, tGET, kT k, [], rGot 1 y⟩ :: ⟨true, tPUT, kT k, y, rNo⟩ :: ⟨true, tDEL, kT k, [], rNo⟩ :: ⟨false, tPUT, tPolicy, denyT, rFine⟩ :: den3 k y
def den1 (k y : Tx) : List AskD := ⟨true, tGET, kT k, [], rNo⟩ :: ⟨true, tPUT, kT k, y, rNo⟩ :: ⟨true, tGET, tABox, [], rNo⟩ :: ⟨true, tPUT, tPolicy, allowT, rNo⟩ :: ⟨false, tPUT, tPolicy, allowT, rFine⟩ :: den2 k y
theorem good4 {s : Sto} {p k y : Tx} {l : List Ver} {m : Nat} (hk : keyP k = true) (hp : p ≠ []) (D : DS s p denyR k (l ++ [⟨2, false, y⟩]) 2 m) (hm : m + 1006 ≤ 20000) : GoodD s (den4 k y) := by
  unfold den4
  have a6 := ds_unpol D hp says_deny_al hm
  refine al_do (rd_unpol has_al) (by simp) a6.1 ?_
  have D5 := a6.2
  generalize (askT tAl sAl s tDEL tPolicy []).2 = s5 at *
  have a7 := ds_get D5 has_al hk (by rw [says_none]; simp)
  refine al_do (rd_get has_al hk) (by simp) (by rw [a7, got_is]) ?_
  rw [a7]
  exact bo_no (rd_get has_bo hk) (may_no D5 (by simp) rfl rfl rfl (.inr ⟨says_none _ _ _, nb⟩)) trivial
theorem good3 {s : Sto} {p k y : Tx} {l : List Ver} {m : Nat} (hk : keyP k = true) (hy : y.length ≤ 300) (hp : p ≠ []) (D : DS s p denyR k l 1 m) (hm : m + 2012 ≤ 20000) : GoodD s (den3 k y) := by
  unfold den3
  have hkn := key_ne hk
  refine bo_no (rd_get has_bo hk) (may_no D (by simp) rfl rfl rfl (.inl (says_deny_get hkn _))) ?_
  refine al_no (rd_get has_al hk) (may_no D (by simp) rfl rfl rfl (.inl (says_deny_get hkn _))) ?_
  have a5 := ds_put D has_bo hk hy (by rw [says_deny_put]; simp) (by omega)
  refine bo_do (rd_put has_bo hk hy) (by simp) (by rw [a5.1, put_is]) ?_
  exact good4 hk hp a5.2 (by omega)
theorem good2 {s : Sto} {p k y : Tx} {l : List Ver} {m : Nat} (hk : keyP k = true) (hy : y.length ≤ 300) (D : DS s p allowR k (l ++ [⟨1, false, y⟩]) 1 m) (hm : m + 3018 ≤ 20000) : GoodD s (den2 k y) := by
  unfold den2
  have a3 := ds_get D has_bo hk (by rw [says_allow_get]; simp)
  refine bo_do (rd_get has_bo hk) (by simp) (by rw [a3, got_is]) ?_
  rw [a3]
  refine bo_no (rd_put has_bo hk hy) (may_no D (by simp) rfl rfl rfl (.inr ⟨says_allow_put _, nb⟩)) ?_
  refine bo_no (rd_del has_bo hk) (may_no D (by simp) rfl rfl rfl (.inr ⟨says_allow_del _, nb⟩)) ?_
  have a4 := ds_pol D ld rules_deny says_allow_al (by omega)
  refine al_do (rd_pol has_al ld) (by simp) a4.1 ?_
  exact good3 hk hy (by decide) a4.2 (by omega)
theorem good1 {s : Sto} {k y : Tx} {l : List Ver} {m : Nat} (hk : keyP k = true) (hy : y.length ≤ 300) (D : DS s [] [] k (l ++ [⟨1, false, y⟩]) 1 m) (hm : m + 4024 ≤ 20000) : GoodD s (den1 k y) := by
  unfold den1
  refine bo_no (rd_get has_bo hk) (may_no D (by simp) rfl rfl rfl (.inr ⟨says_none _ _ _, nb⟩)) ?_
  refine bo_no (rd_put has_bo hk hy) (may_no D (by simp) rfl rfl rfl (.inr ⟨says_none _ _ _, nb⟩)) ?_
  refine bo_no (rd_list has_bo) (may_no D (by simp) rfl rfl rfl (.inr ⟨says_none _ _ _, nb⟩)) ?_
  refine bo_no (rd_pol has_bo la) (may_no D (by simp) rfl rfl rfl (.inr ⟨says_none _ _ _, nb⟩)) ?_
  have a2 := ds_pol D la rules_allow (by rw [says_none]; decide) (by omega)
  refine al_do (rd_pol has_al la) (by simp) a2.1 ?_
  exact good2 hk hy a2.2 (by omega)
theorem den_is (k y : Tx) : denL k y = ⟨false, tPUT, kT k, y, rPut 1⟩ :: den1 k y := rfl
theorem den_good {s : Sto} {k y : Tx} (hk : keyP k = true) (hy : y.length ≤ 300) (D : DS s [] [] k [] 0 1000) : GoodD s (denL k y) := by
  rw [den_is]
  have a1 := ds_put D has_al hk hy (by rw [says_none]; simp) (by omega)
  refine al_do (rd_put has_al hk hy) (by simp) (by rw [a1.1, put_is]) ?_
  exact good1 hk hy a1.2 (by omega)
/-- The store when all begins. -/
theorem den_begun (k : Tx) : DS (askT tAl sAl (Sto.new [tAl, tBo] 20000) tPUT tABox []).2 [] [] k [] 0 1000 := by
  obtain ⟨_, hr⟩ := begun_says 20000 (by omega)
  have fl : (frameT (Chg.mk tBkt tAl).text).length ≤ 100 := by simp [Chg.text, shortT, bigL_len, frameT, longT, numT]
  have d1 := done_mk (s := Sto.new [tAl, tBo] 20000) (o := tAl) hbk (by rfl) rfl (by show 0 + _ ≤ 20000; omega)
  unfold askT
  rw [do_ok hr rfl]
  have sv1 : serveP (Sto.new [tAl, tBo] 20000) tAl ⟨0, [], tBkt, [], [], 0, [], [], 10⟩ = (200, [], [], { (Sto.new [tAl, tBo] 20000).setBk tBkt ⟨tAl, [], []⟩ with log := (Sto.new [tAl, tBo] 20000).log ++ frameT (Chg.mk tBkt tAl).text }) := by
    unfold serveP; rw [if_pos rfl]; simp only; rw [d1]
  rw [sv1]
  exact ⟨by simp [Sto.setBk], rfl, rfl, rfl, by show ([] ++ _ : Tx).length ≤ _; simp; omega⟩
end Go.Proofs.YtbllcgibmgbnjaaGreatDoor.P
namespace Go.Proofs.YtbllcgibmgbnjaaGreatDoor.P
open Go.RowKit
open Go.Proofs.YtbllcgibmgbnjaaGreatDoor.C (ret_bool ret_int ret_str enc enc_len)

set_option maxHeartbeats 1000000 in
theorem lenc_any (l : Tx) (p : Bool) (hl : l.length ≤ 1000000000) (w : World) :
    Calls Tryz.prog 12 #[str l, .bool p] w fun e w' => e = .returned (str (enc p l)) ∧ Below w.heap.size w w' := by
  have C : Hid (_) := R.encode_r l p w hl
  go_enter Tryz.func12, Tryz.ntmps12
  go_wp2_with fail
  refine Calls.mono C.out ?_
  rintro e w1 ⟨rfl, b1⟩
  go_wp2
  go_ret
  exact ⟨rfl, b1⟩
end Go.Proofs.YtbllcgibmgbnjaaGreatDoor.P
namespace Go.Proofs.YtbllcgibmgbnjaaGreatDoor.P
open Go.RowKit
open Go.Proofs.YtbllcgibmgbnjaaGreatDoor.C (ret_bool ret_int ret_str enc enc_len)

/-- The cells of the table. -/
def askCells (a : AskD) : List Value := [.bool a.bo, str a.m, str a.tg, str a.y, str a.want]
theorem den_len (k y : Tx) : (denL k y).length = 16 := rfl
theorem good_drop {s : Sto} {l : List AskD} {i : Nat} (h : GoodD s (l.drop i)) (hi : i < l.length) : ((l[i].ans s).1 = l[i].want ∧ noList two 5000 s (headT l[i].u l[i].sec 5000 l[i].m l[i].tg l[i].y) ∧ (headT l[i].u l[i].sec 5000 l[i].m l[i].tg l[i].y).length ≤ 2000) ∧ GoodD (l[i].ans s).2 (l.drop (i + 1)) := by
  rw [List.drop_eq_getElem_cons hi] at h
  exact h
theorem ask_small (k y : Tx) (hk : keyP k = true) (hy : y.length ≤ 300) : ∀ a ∈ denL k y, a.m.length ≤ 1000 ∧ a.tg.length ≤ 1000 ∧ a.y.length ≤ 1000 := by
  have lk := key_len hk
  have le := (enc_len true k).2
  have hkt : (kT k).length ≤ 1000 := by simp [kT]; omega
  have h1 : tPolicy.length ≤ 1000 := by decide
  have h2 : tABox.length ≤ 1000 := by decide
  have la' := la
  have ld' := ld
  intro a ha
  simp only [denL, List.mem_cons, List.not_mem_nil, or_false] at ha
  rcases ha with rfl | rfl | rfl | rfl | rfl | rfl | rfl | rfl | rfl | rfl | rfl | rfl | rfl | rfl | rfl | rfl
  all_goals exact ⟨by simp [tPUT, tGET, tDEL], by first | exact hkt | exact h1 | exact h2, by first | (show ([] : Tx).length ≤ 1000; simp; done) | (show allowT.length ≤ 1000; omega) | (show denyT.length ≤ 1000; omega) | (show y.length ≤ 1000; omega)⟩
/-- The table lies at block t. -/
structure Tab (t : Nat) (l : List AskD) (w : World) : Prop where
  at_ : ∀ i (h : i < l.length), w.cell? ⟨t, i * 5, none⟩ = some (.bool l[i].bo) ∧ w.cell? ⟨t, i * 5 + 1, none⟩ = some (str l[i].m) ∧ w.cell? ⟨t, i * 5 + 2, none⟩ = some (str l[i].tg) ∧ w.cell? ⟨t, i * 5 + 3, none⟩ = some (str l[i].y) ∧ w.cell? ⟨t, i * 5 + 4, none⟩ = some (str l[i].want)
  hl : t < w.heap.size
theorem Tab.step {t : Nat} {l : List AskD} {r r' : Roles} {w w' : World} (h : Tab t l w) (st : Step r w r' w') (hr : r t = .none) : Tab t l w' where
  at_ := fun i hi => by
    obtain ⟨c0, c1, c2, c3, c4⟩ := h.at_ i hi
    exact ⟨st.kept.cell c0 (by simp [hr]), st.kept.cell c1 (by simp [hr]), st.kept.cell c2 (by simp [hr]), st.kept.cell c3 (by simp [hr]), st.kept.cell c4 (by simp [hr])⟩
  hl := Nat.lt_of_lt_of_le h.hl st.kept.size
theorem cells_at (l : List AskD) (i : Nat) (hi : i < l.length) (j : Nat) (hj : j < 5) : (l.flatMap askCells)[i * 5 + j]? = (askCells l[i])[j]? := by
  induction l generalizing i with
  | nil => simp at hi
  | cons a l ih =>
    rw [List.flatMap_cons]
    cases i with
    | zero => rw [List.getElem?_append_left (by simp [askCells]; omega)]; simp
    | succ i =>
      rw [List.getElem?_append_right (by simp [askCells]; omega)]
      have e : (i + 1) * 5 + j - (askCells a).length = i * 5 + j := by simp [askCells]; omega
      rw [e]
      simp only [List.getElem_cons_succ]
      exact ih i (by simp at hi; omega)
theorem tab_of (w : World) (t : Nat) (l : List AskD) (tab : Array Value) (h : tab = (l.flatMap askCells).toArray) : Tab w.heap.size l (w.alloc (.cells tab t)) where
  at_ := fun i hi => by
    have c : ∀ j, j < 5 → (w.alloc (.cells tab t)).cell? ⟨w.heap.size, i * 5 + j, none⟩ = (askCells l[i])[j]? := fun j hj => by
      rw [← cells_at l i hi j hj]
      simp [go_sem, h]
    exact ⟨c 0 (by omega), c 1 (by omega), c 2 (by omega), c 3 (by omega), c 4 (by omega)⟩
  hl := by simp
set_option maxHeartbeats 8000000 in
set_option maxRecDepth 20000 in
theorem dlaw_any (name body : Tx) (w : World) (G : GL w) (l2 : name.length ≤ 140737488355328) (l3 : body.length ≤ 140737488355328) :
    Calls Tryz.prog 7 #[str name, str body] w fun e w' => e = .returned (.bool true) ∧ Below w.heap.size w w' := by
  have BG : Hid (Calls Tryz.prog 19 #[.int .i64 20000] w fun e w' => ∃ h a b r, e = .returned (.tuple #[.pointer (some ⟨h, 0, none⟩), .bool true]) ∧ HS h a b (askT tAl sAl (Sto.new [tAl, tBo] 20000) tPUT tABox []).2 r w' ∧ Below w.heap.size w w' ∧ ∀ g, r g ≠ .none → w.heap.size ≤ g) := begun_any 20000 (by omega) (by omega) w G
  have CB : Hid (∀ w, Calls Tryz.prog 9 #[str body, .int .i64 300] w fun e w' => e = .returned (str (body.take 300)) ∧ w = w') := fun w => cutK_any body 300 (by omega) (by omega) w
  have hy : (body.take 300).length ≤ 300 := by simp; omega
  have SH : Hid (∀ w, Calls Tryz.prog 13 #[str name, .int .i64 40] w fun e w' => e = .returned (str (showT name 40)) ∧ Below w.heap.size w w') := fun w => shown_any name 40 (by omega) (by omega) w
  have hk := key_show name
  have lk := key_len hk
  generalize showT name 40 = k at *
  generalize body.take 300 = y at *
  have EN : Hid (∀ w, Calls Tryz.prog 12 #[str k, .bool true] w fun e w' => e = .returned (str (enc true k)) ∧ Below w.heap.size w w') := fun w => lenc_any k true (by omega) w
  have ele := (enc_len true k).2
  have GD : Hid (GoodD (askT tAl sAl (Sto.new [tAl, tBo] 20000) tPUT tABox []).2 (denL k y)) := den_good hk hy (den_begun k)
  have HPB : Hid ((⟨#[47, 97, 108, 115, 98, 111, 120, 47]⟩ : ByteArray) ++ ⟨(enc true k).toArray⟩ = ⟨(kT k).toArray⟩) := R.str_app [47, 97, 108, 115, 98, 111, 120, 47] (enc true k)
  have PK : Hid (∀ (n : Nat) W, n ≤ 10 → R.Env W → Calls Tryz.prog 17 #[.int .i64 (n : Int)] W fun e w' => e = .returned (str (rPut n)) ∧ Below W.heap.size W w') := fun n W hn E => putK_any n (by omega) W E
  have GK : Hid (∀ (n : Nat) W, n ≤ 10 → R.Env W → Calls Tryz.prog 18 #[.int .i64 (n : Int), str y] W fun e w' => e = .returned (str (rGot n y)) ∧ Below W.heap.size W w') := fun n W hn E => gotK_any n y (by omega) (by omega) W E
  generalize (askT tAl sAl (Sto.new [tAl, tBo] 20000) tPUT tABox []).2 = s0 at *
  go_enter Tryz.func7, Tryz.ntmps7
  go_wp2_with fail
  refine Calls.mono BG.out ?_
  rintro e w1 ⟨h, a, b, r, rfl, H1, B1, hr⟩
  have G1 := G.call B1
  clear BG
  go_wp2_with fail
  refine Calls.mono (SH.out _) ?_
  rintro e w2 ⟨rfl, b2⟩
  have B2 := below_trans B1 b2
  have G2 := G1.call b2
  have H2 := H1.below b2
  clear SH H1 b2 G1 B1
  go_wp2_with fail
  refine Calls.mono (EN.out _) ?_
  rintro e w3 ⟨rfl, b3⟩
  have B3 := below_trans B2 b3
  have G3 := G2.call b3
  have H3 := H2.below b3
  clear EN H2 b3 G2 B2
  go_wp2_with fail
  rw [HPB.out]
  refine Calls.mono (CB.out _) ?_
  rintro e w4 ⟨rfl, rfl⟩
  clear CB HPB
  go_wp2_with fail
  refine Calls.mono (PK.out 1 w3 (by omega) G3.env) ?_
  rintro e w5 ⟨rfl, b5⟩
  have B5 := below_trans B3 b5
  have G5 := G3.call b5
  have H5 := H3.below b5
  clear H3 b5 G3 B3
  go_wp2_with fail
  refine Calls.mono (GK.out 1 w5 (by omega) G5.env) ?_
  rintro e w6 ⟨rfl, b6⟩
  have B6 := below_trans B5 b6
  have G6 := G5.call b6
  have H6 := H5.below b6
  clear H5 b6 G5 B5
  go_wp2_with fail
  refine Calls.mono (PK.out 2 w6 (by omega) G6.env) ?_
  rintro e w7 ⟨rfl, b7⟩
  have B7 := below_trans B6 b7
  have G7 := G6.call b7
  have H7 := H6.below b7
  clear H6 b7 G6 B6
  go_wp2_with fail
  refine Calls.mono (GK.out 2 w7 (by omega) G7.env) ?_
  rintro e w8 ⟨rfl, b8⟩
  have B8 := below_trans B7 b8
  have G8 := G7.call b8
  have H8 := H7.below b8
  clear H7 b8 G7 B7 PK GK
  go_wp2_with fail
  generalize hW : World.alloc w8 _ = W9
  have TB : Tab w8.heap.size (denL k y) W9 := by rw [← hW]; exact tab_of _ _ _ _ (by rw [denL]; simp only [rNo, rFine, deniedT, fineT]; rfl)
  have b9 : Below w8.heap.size w8 W9 := by rw [← hW]; exact (Below.refl _ _).alloc (Nat.le_refl _) _
  clear hW
  have H9 := H8.below b9
  have G9 := G8.call b9
  have B9 := below_trans B8 b9
  have rt : r w8.heap.size = .none := H8.L.new
  generalize w8.heap.size = t at *
  clear H8 G8 B8 b9
  have SM : Hid (∀ q ∈ denL k y, q.m.length ≤ 1000 ∧ q.tg.length ≤ 1000 ∧ q.y.length ≤ 1000) := ask_small k y hk hy
  have hL := den_len k y
  generalize denL k y = L at *
  have H9 : Hid (HS h a b s0 r W9) := H9
  have G9 : Hid (GL W9) := G9
  have TB : Hid (Tab t L W9) := TB
  go_loopw [13, 14] (fun i _ wr => ∃ (n : Nat) (s : Sto) (r' : Roles), n ≤ 16 ∧ i = .int .i64 n ∧ GoodD s (L.drop n) ∧ HS h a b s r' wr ∧ Tab t L wr ∧ GL wr ∧ Step r W9 r' wr) (fun i _ _ => 16 - (intOf i).toNat)
  case atStart => exact ⟨0, s0, r, by omega, rfl, GD.out, H9.out, TB.out, G9.out, Step.refl _ _⟩
  case round =>
    obtain ⟨n, s, r', hn, rfl, gd, HW, TW, GW, st⟩ := hrel
    by_cases hlt : n < 16
    · have hlt' : n < L.length := by omega
      obtain ⟨⟨g1, g2, g3⟩, g4⟩ := good_drop gd hlt'
      obtain ⟨c0, c1, c2, c3, c4⟩ := TW.at_ n hlt'
      obtain ⟨m1, m2, m3⟩ := SM.out L[n] (List.getElem_mem hlt')
      have rt' : r' t = .none := st.none (by have := TB.out.hl; omega) rt
      generalize hq : L[n] = q at *
      obtain ⟨bo, m, tg, yy, want⟩ := q
      simp only at c0 c1 c2 c3 c4 m1 m2 m3
      cases bo with
      | false =>
        simp only [AskD.ans, AskD.u, AskD.sec, Bool.false_eq_true, if_false] at g1 g2 g3 g4
        generalize hs2 : (askT tAl sAl s m tg yy).2 = s2 at *
        have g4 : Hid (GoodD s2 (L.drop (n + 1))) := g4
        have AN : Hid (Calls Tryz.prog 25 #[.pointer (some ⟨h, 0, none⟩), str m, str tg, str yy] wr.drew fun e w' => (∃ r2, e = .returned (str want) ∧ HS h a b s2 r2 w' ∧ Step r' wr.drew r2 w') ∧ w'.cell? ⟨t, n * 5 + 1, none⟩ = some (str m) ∧ w'.cell? ⟨t, n * 5 + 2, none⟩ = some (str tg) ∧ w'.cell? ⟨t, n * 5 + 3, none⟩ = some (str yy)) :=
          Calls.mono (al_any h a b s r' m tg yy (by omega) (by omega) (by omega) wr.drew GW.drew (HW.below (below_drew wr)) (Nat.le_trans g3 (by omega)) g2) (by
            rintro e w' ⟨r2, rfl, x1, x2⟩
            rw [hs2] at x1
            rw [g1]
            exact ⟨⟨r2, rfl, x1, x2⟩, x2.kept.cell c1 (by simp [rt']), x2.kept.cell c2 (by simp [rt']), x2.kept.cell c3 (by simp [rt'])⟩)
        clear g1 g2 g3
        have xd : wr.drew.cell? ⟨t, n * 5 + 1, none⟩ = some (str m) ∧ wr.drew.cell? ⟨t, n * 5 + 2, none⟩ = some (str tg) ∧ wr.drew.cell? ⟨t, n * 5 + 3, none⟩ = some (str yy) := ⟨c1, c2, c3⟩
        have HW : Hid (HS h a b s r' wr) := HW
        have TW : Hid (Tab t L wr) := TW
        have GW : Hid (GL wr) := GW
        have st : Hid (Step r W9 r' wr) := st
        go_wp2_with fail
        go_region_held3 (fun w' => w'.cell? ⟨t, n * 5 + 1, none⟩ = some (str m) ∧ w'.cell? ⟨t, n * 5 + 2, none⟩ = some (str tg) ∧ w'.cell? ⟨t, n * 5 + 3, none⟩ = some (str yy)) (first | with_reducible exact xd | with_reducible exact x5)
          ((go_at_call 25; with_reducible refine Calls.mono AN.out ?_; rintro e w1 ⟨⟨r2, rfl, H2, st2⟩, x5⟩))
        all_goals (
          have st3 : Step r' wr r2 w1 := (Step.of_below (below_drew wr)).trans st2
          have d4 : w1.cell? ⟨t, n * 5 + 4, none⟩ = some (str want) := st3.kept.cell c4 (by simp [rt'])
          go_wp2
          all_goals go_roundw)
        case rel => exact ⟨n + 1, s2, r2, by omega, by go_num, g4.out, H2, TW.out.step st3 rt', HW.out.L.glob GW.out st3, st.out.trans st3⟩
        case measure => simp [intOf]; omega
      | true =>
        simp only [AskD.ans, AskD.u, AskD.sec, if_true] at g1 g2 g3 g4
        generalize hs2 : (askT tBo sBo s m tg yy).2 = s2 at *
        have g4 : Hid (GoodD s2 (L.drop (n + 1))) := g4
        have AN : Hid (Calls Tryz.prog 28 #[.pointer (some ⟨h, 0, none⟩), str m, str tg, str yy] wr.drew fun e w' => (∃ r2, e = .returned (str want) ∧ HS h a b s2 r2 w' ∧ Step r' wr.drew r2 w') ∧ w'.cell? ⟨t, n * 5 + 1, none⟩ = some (str m) ∧ w'.cell? ⟨t, n * 5 + 2, none⟩ = some (str tg) ∧ w'.cell? ⟨t, n * 5 + 3, none⟩ = some (str yy)) :=
          Calls.mono (bo_any h a b s r' m tg yy (by omega) (by omega) (by omega) wr.drew GW.drew (HW.below (below_drew wr)) (Nat.le_trans g3 (by omega)) g2) (by
            rintro e w' ⟨r2, rfl, x1, x2⟩
            rw [hs2] at x1
            rw [g1]
            exact ⟨⟨r2, rfl, x1, x2⟩, x2.kept.cell c1 (by simp [rt']), x2.kept.cell c2 (by simp [rt']), x2.kept.cell c3 (by simp [rt'])⟩)
        clear g1 g2 g3
        have xd : wr.drew.cell? ⟨t, n * 5 + 1, none⟩ = some (str m) ∧ wr.drew.cell? ⟨t, n * 5 + 2, none⟩ = some (str tg) ∧ wr.drew.cell? ⟨t, n * 5 + 3, none⟩ = some (str yy) := ⟨c1, c2, c3⟩
        have HW : Hid (HS h a b s r' wr) := HW
        have TW : Hid (Tab t L wr) := TW
        have GW : Hid (GL wr) := GW
        have st : Hid (Step r W9 r' wr) := st
        go_wp2_with fail
        go_region_held3 (fun w' => w'.cell? ⟨t, n * 5 + 1, none⟩ = some (str m) ∧ w'.cell? ⟨t, n * 5 + 2, none⟩ = some (str tg) ∧ w'.cell? ⟨t, n * 5 + 3, none⟩ = some (str yy)) (first | with_reducible exact xd | with_reducible exact x5)
          ((go_at_call 28; with_reducible refine Calls.mono AN.out ?_; rintro e w1 ⟨⟨r2, rfl, H2, st2⟩, x5⟩))
        all_goals (
          have st3 : Step r' wr r2 w1 := (Step.of_below (below_drew wr)).trans st2
          have d4 : w1.cell? ⟨t, n * 5 + 4, none⟩ = some (str want) := st3.kept.cell c4 (by simp [rt'])
          go_wp2
          all_goals go_roundw)
        case rel => exact ⟨n + 1, s2, r2, by omega, by go_num, g4.out, H2, TW.out.step st3 rt', HW.out.L.glob GW.out st3, st.out.trans st3⟩
        case measure => simp [intOf]; omega
    · have e : n = 16 := by omega
      subst e
      go_wp2
      go_ret
      exact ⟨rfl, B9.trans (st.kept.below (B := w.heap.size) B9.size (fun g hg => hr g hg))⟩
end Go.Proofs.YtbllcgibmgbnjaaGreatDoor.P
namespace Go.Proofs.YtbllcgibmgbnjaaGreatDoor.E
open Go.ChangeShapes Go.WideShapes Go.ChangeAt Go.RowKit
open Go.Proofs.YtbllcgibmgbnjaaGreatDoor.P (GL errT rowsC rowCells tPUT tGET tDEL tPrefix tAfter tMax tVersion sPolicy sList sPut sGet sDelete)
open Go.Proofs.YtbllcgibmgbnjaaGreatDoor.R (Bs str Env gTop)

theorem own : ownKnob Tryz.prog.godebug = none := by kernel_rfl
theorem gP : Tryz.prog.globalNamed "internal/strconv.uint64pow10" = some 2 := by kernel_rfl
theorem gPType : (Tryz.prog.globals[2]?).map (·.type) = some 261 := by kernel_rfl
theorem cellsP : Tryz.prog.cellsOf 261 = 20 := by kernel_rfl
theorem cellsU : Tryz.prog.cellsOf 199 = 1 := by kernel_rfl
theorem gS : Tryz.prog.globalNamed "larder/mark.firstState" = some 0 := by kernel_rfl
theorem gSType : (Tryz.prog.globals[0]?).map (·.type) = some 196 := by kernel_rfl
theorem gK : Tryz.prog.globalNamed "larder/mark.roundWords" = some 4 := by kernel_rfl
theorem gKType : (Tryz.prog.globals[4]?).map (·.type) = some 312 := by kernel_rfl
theorem cells8 : Tryz.prog.cellsOf 196 = 8 := by kernel_rfl
theorem cells64 : Tryz.prog.cellsOf 312 = 64 := by kernel_rfl
theorem cells1 : Tryz.prog.cellsOf 195 = 1 := by kernel_rfl
def zS : List Int := hL.map Int.ofNat
def zK : List Int := kL.map Int.ofNat
theorem zS_get (j : Nat) (h : j < 8) : zS.getD j 0 = ((hL.getD j 0 : Nat) : Int) := by
  have : ∀ n : Fin 8, zS.getD n.val 0 = ((hL.getD n.val 0 : Nat) : Int) := by decide +kernel
  exact this ⟨j, h⟩
theorem zK_get (j : Nat) (h : j < 64) : zK.getD j 0 = ((kL.getD j 0 : Nat) : Int) := by
  have : ∀ n : Fin 64, zK.getD n.val 0 = ((kL.getD n.val 0 : Nat) : Int) := by decide +kernel
  exact this ⟨j, h⟩
theorem zS_len : zS.length = 8 := by decide +kernel
theorem zK_len : zK.length = 64 := by decide +kernel
theorem cell_lt {w : World} {b j : Nat} {v : Value} (h : w.cell? ⟨b, j, none⟩ = some v) : b < w.heap.size := World.block_lt_of_cell? w ⟨b, j, none⟩ h
/-- What the rows list, but the handle of a type. -/
abbrev listed : List (String × DataW Unit) := [("math/bits.deBruijn32tab", Rows.laid_math_bits_deBruijn32tab), ("math/bits.deBruijn64tab", Rows.laid_math_bits_deBruijn64tab), ("internal/strconv.uint64pow10", Lib.tabData .u64 Lib.pow10Tab), ("larder/mark.firstState", Lib.tabData .u32 zS), ("larder/mark.roundWords", Lib.tabData .u32 zK), ("unicode/utf8.acceptRanges", Rows.laid_unicode_utf8_acceptRanges),
  ("strconv.ErrRange", Rows.laid_strconv_ErrRange), ("strconv.ErrSyntax", Rows.laid_strconv_ErrSyntax), ("larder/ask.rows", Rows.laid_larder_ask_rows), ("larder/kept.errNoRoom", Rows.laid_larder_kept_errNoRoom), ("unicode/utf8.first", Rows.laid_unicode_utf8_first)]
theorem filt_no : (Rows.signedRow.laid.filter fun x => x.2.handleName?.isNone) = listed := by kernel_rfl
theorem filt_yes : (Rows.signedRow.laid.filter fun x => x.2.handleName?.isSome) = [("errors.errorType", Rows.laid_errors_errorType)] := by kernel_rfl
theorem parts {W : World} (h : laidMetH Tryz.prog Rows.signedRow.laid W) : laidMet Tryz.prog listed W ∧ handlesMet Tryz.prog [("errors.errorType", Rows.laid_errors_errorType)] W := by
  unfold laidMetH at h
  rw [filt_yes, filt_no] at h
  exact h
theorem gE : Tryz.prog.globalNamed "errors.errorType" = some 1 := by kernel_rfl
theorem rtN : (Tryz.prog.cutTypes.find? (·.1 == "internal/reflectlite.rtype")).map (·.2) = some 264 := by kernel_rfl
theorem tySize : Tryz.prog.types.size = 449 := by kernel_rfl
theorem oneRow : ((List.range 449).filter fun t => Tryz.prog.rowNamed t [101, 114, 114, 111, 114]) = [80] := by kernel_rfl
theorem handle_of {W : World} (h : handlesMet Tryz.prog [("errors.errorType", Rows.laid_errors_errorType)] W) : errT W := by
  obtain ⟨name, u, ty, e1, e2, e3, e4, e5⟩ := h _ (List.mem_singleton.2 rfl)
  have en : name = [101, 114, 114, 111, 114] := (Option.some.inj e1).symm
  subst en
  obtain rfl := Option.some.inj (rtN.symm.trans e2)
  have hm : ty ∈ (List.range 449).filter fun t => Tryz.prog.rowNamed t [101, 114, 114, 111, 114] := List.mem_filter.2 ⟨List.mem_range.2 (by rw [← tySize]; exact e3), e4⟩
  rw [oneRow] at hm
  obtain rfl := List.mem_singleton.1 hm
  have hh : typeHandle Tryz.prog 80 = .pointer (some ⟨13, 80, none⟩) := by kernel_rfl
  rw [hh] at e5
  have := World.var?_cell gE e5 0
  simpa [errT] using this
/-! ### The table of requests -/
section
variable {H : Type} {enc : TypeId × Value → H} {w : World} {base : Nat} {sp : Nat → Bool} {held : Bool} {fuel : Nat} {cs : List Value} {p : List MemPlace}
theorem leaf_str {t : TypeId} {l : List UInt8} (ht : Tryz.prog.underlying t = some .string) (h : DataW.trod enc Tryz.prog w base sp held fuel t cs = some (.lit (.string l), p)) : cs = [str l] := by
  obtain ⟨s, rfl, e, _⟩ := DataW.trod_string ht h
  have e3 : l = s.data.toList := by have := congrArg Prod.fst e; simpa using this
  rw [e3]
theorem leaf_bool {t : TypeId} {b : Bool} (ht : Tryz.prog.underlying t = some .bool) (h : DataW.trod enc Tryz.prog w base sp held fuel t cs = some (.lit (.bool b), p)) : cs = [.bool b] := by
  obtain ⟨s, rfl, e⟩ := DataW.trod_bool ht h
  have e3 : b = s := by have := congrArg Prod.fst e; simpa using this
  rw [e3]
theorem leaf_int {t : TypeId} {k : IntKind} {z : Int} (ht : Tryz.prog.underlying t = some (.int k)) (h : DataW.trod enc Tryz.prog w base sp held fuel t cs = some (.lit (.int k z), p)) : cs = [.int k z] := by
  obtain ⟨s, rfl, e, _⟩ := DataW.trod_int ht h
  have e3 : z = s := by have := congrArg Prod.fst e; simpa using this
  rw [e3]
theorem at_of {xs : List (DataW H × List MemPlace)} {ds : List (DataW H)} (h : ds = xs.map (·.1)) {i : Nat} {d : DataW H} (hd : ds[i]? = some d) {o : Option (DataW H × List MemPlace)} (ho : o = xs[i]?) : ∃ q, o = some (d, q) := by
  rw [h, List.getElem?_map, Option.map_eq_some_iff] at hd
  obtain ⟨x, hx, rfl⟩ := hd
  exact ⟨x.2, by rw [ho, hx]⟩
theorem agg_inj {a b : List (DataW H)} (h : DataW.agg a = DataW.agg b) : a = b := by cases h; rfl
theorem len3 : ∀ {l : List Value}, l.length = 3 → ∃ x y z, l = [x, y, z]
  | [x, y, z], _ => ⟨x, y, z, rfl⟩
theorem len9 : ∀ {l : List Value}, l.length = 9 → ∃ x0 x1 x2 x3 x4 x5 x6 x7 x8, l = [x0, x1, x2, x3, x4, x5, x6, x7, x8]
  | [x0, x1, x2, x3, x4, x5, x6, x7, x8], _ => ⟨x0, x1, x2, x3, x4, x5, x6, x7, x8, rfl⟩
theorem c_str : Tryz.prog.cellsOf 9 = 1 := by kernel_rfl
theorem c_bool : Tryz.prog.cellsOf 4 = 1 := by kernel_rfl
theorem c_int : Tryz.prog.cellsOf 3 = 1 := by kernel_rfl
theorem c_kind : Tryz.prog.cellsOf 110 = 1 := by kernel_rfl
theorem c_three : Tryz.prog.cellsOf 223 = 3 := by kernel_rfl
theorem c_row : Tryz.prog.cellsOf 225 = 9 := by kernel_rfl
theorem c_rows : Tryz.prog.cellsOf 279 = 81 := by kernel_rfl
theorem three_cells {a b c : List UInt8} (h : DataW.trod enc Tryz.prog w base sp held fuel 223 cs = some (.agg [.lit (.string a), .lit (.string b), .lit (.string c)], p)) : cs = [str a, str b, str c] := by
  obtain ⟨xs, m, rfl, e, hl, hx, hat⟩ := DataW.trod_array Tryz.underlying223 h
  have e1 := congrArg Prod.fst e
  have e2 := agg_inj e1
  rw [c_str] at hat
  rw [c_three] at hl
  obtain ⟨x, y, z, rfl⟩ := len3 hl
  focus
    obtain ⟨q0, h0⟩ := at_of e2 (i := 0) rfl (hat 0 (by omega))
    obtain ⟨q1, h1⟩ := at_of e2 (i := 1) rfl (hat 1 (by omega))
    obtain ⟨q2, h2⟩ := at_of e2 (i := 2) rfl (hat 2 (by omega))
    have r0 : [x] = [str a] := leaf_str Tryz.underlying9 h0
    have r1 : [y] = [str b] := leaf_str Tryz.underlying9 h1
    have r2 : [z] = [str c] := leaf_str Tryz.underlying9 h2
    rw [(List.cons.inj r0).1, (List.cons.inj r1).1, (List.cons.inj r2).1]
theorem row_cells {m a b c act : List UInt8} {pb yb : Bool} {n k : Int} (h : DataW.trod enc Tryz.prog w base sp held fuel 225 cs = some (.agg [.lit (.string m), .lit (.bool pb), .agg [.lit (.string a), .lit (.string b), .lit (.string c)], .lit (.int .i64 n), .lit (.int .i64 k), .lit (.string act), .lit (.bool yb)], p)) :
    cs = rowCells m pb a b c n k act yb := by
  obtain ⟨xs, fu, rfl, e, hl, hx, hat⟩ := DataW.trod_struct Tryz.underlying225 h
  have e1 := congrArg Prod.fst e
  have e2 := agg_inj e1
  rw [c_row] at hl
  obtain ⟨x0, x1, x2, x3, x4, x5, x6, x7, x8, rfl⟩ := len9 hl
  focus
    obtain ⟨q0, h0⟩ := at_of e2 (i := 0) rfl (hat 0 { name := "method", type := 9, offset := 0, embedded := false, tag := "", pkgPath := "larder/ask", byteOffset := 0 } rfl)
    obtain ⟨q1, h1⟩ := at_of e2 (i := 1) rfl (hat 1 { name := "path", type := 4, offset := 1, embedded := false, tag := "", pkgPath := "larder/ask", byteOffset := 16 } rfl)
    obtain ⟨q2, h2⟩ := at_of e2 (i := 2) rfl (hat 2 { name := "pairs", type := 223, offset := 2, embedded := false, tag := "", pkgPath := "larder/ask", byteOffset := 24 } rfl)
    obtain ⟨q3, h3⟩ := at_of e2 (i := 3) rfl (hat 3 { name := "least", type := 3, offset := 5, embedded := false, tag := "", pkgPath := "larder/ask", byteOffset := 72 } rfl)
    obtain ⟨q4, h4⟩ := at_of e2 (i := 4) rfl (hat 4 { name := "kind", type := 110, offset := 6, embedded := false, tag := "", pkgPath := "larder/ask", byteOffset := 80 } rfl)
    obtain ⟨q5, h5⟩ := at_of e2 (i := 5) rfl (hat 5 { name := "action", type := 9, offset := 7, embedded := false, tag := "", pkgPath := "larder/ask", byteOffset := 88 } rfl)
    obtain ⟨q6, h6⟩ := at_of e2 (i := 6) rfl (hat 6 { name := "hasBody", type := 4, offset := 8, embedded := false, tag := "", pkgPath := "larder/ask", byteOffset := 104 } rfl)
    dsimp only at h0 h1 h2 h3 h4 h5 h6
    rw [c_str] at h0 h5
    rw [c_bool] at h1 h6
    rw [c_three] at h2
    rw [c_int] at h3
    rw [c_kind] at h4
    have r0 : [x0] = [str m] := leaf_str Tryz.underlying9 h0
    have r1 : [x1] = [.bool pb] := leaf_bool Tryz.underlying4 h1
    have r2 : [x2, x3, x4] = [str a, str b, str c] := three_cells h2
    have r3 : [x5] = [.int .i64 n] := leaf_int Tryz.underlying3 h3
    have r4 : [x6] = [.int .i64 k] := leaf_int Tryz.underlying110 h4
    have r5 : [x7] = [str act] := leaf_str Tryz.underlying9 h5
    have r6 : [x8] = [.bool yb] := leaf_bool Tryz.underlying4 h6
    have s1 := (List.cons.inj r2).2
    have s2 := (List.cons.inj s1).2
    rw [(List.cons.inj r0).1, (List.cons.inj r1).1, (List.cons.inj r2).1, (List.cons.inj s1).1, (List.cons.inj s2).1, (List.cons.inj r3).1, (List.cons.inj r4).1, (List.cons.inj r5).1, (List.cons.inj r6).1]; rfl
theorem chunks : ∀ (k : Nat) (l : List Value), l.length = k * 9 → l = (List.range k).flatMap (fun i => (l.drop (i * 9)).take 9)
  | 0, l, h => by simp at h; simp [h]
  | k + 1, l, h => by
    have ih := chunks k (l.drop 9) (by rw [List.length_drop]; omega)
    rw [List.range_succ_eq_map, List.flatMap_cons, List.flatMap_map]
    have e : (fun i => List.take 9 (List.drop ((i + 1) * 9) l)) = fun i => List.take 9 (List.drop (i * 9) (l.drop 9)) := by
      funext i; rw [List.drop_drop]; congr 2; omega
    simp only [Nat.zero_mul, List.drop_zero, Nat.succ_eq_add_one]
    rw [e, ← ih, List.take_append_drop]
theorem rows_cells (h : DataW.trod enc Tryz.prog w base sp held fuel 279 cs = some (Rows.laid_larder_ask_rows, p)) : cs = rowsC.flatten := by
  obtain ⟨xs, m, rfl, e, hl, hx, hat⟩ := DataW.trod_array Tryz.underlying279 h
  unfold Rows.laid_larder_ask_rows at e
  have e1 := congrArg Prod.fst e
  have e2 := agg_inj e1
  rw [c_row] at hat
  rw [c_rows] at hl
  rw [chunks 9 cs (by omega), show List.range 9 = [0, 1, 2, 3, 4, 5, 6, 7, 8] from rfl]
  obtain ⟨q0, h0⟩ := at_of e2 (i := 0) rfl (hat 0 (by omega))
  obtain ⟨q1, h1⟩ := at_of e2 (i := 1) rfl (hat 1 (by omega))
  obtain ⟨q2, h2⟩ := at_of e2 (i := 2) rfl (hat 2 (by omega))
  obtain ⟨q3, h3⟩ := at_of e2 (i := 3) rfl (hat 3 (by omega))
  obtain ⟨q4, h4⟩ := at_of e2 (i := 4) rfl (hat 4 (by omega))
  obtain ⟨q5, h5⟩ := at_of e2 (i := 5) rfl (hat 5 (by omega))
  obtain ⟨q6, h6⟩ := at_of e2 (i := 6) rfl (hat 6 (by omega))
  obtain ⟨q7, h7⟩ := at_of e2 (i := 7) rfl (hat 7 (by omega))
  obtain ⟨q8, h8⟩ := at_of e2 (i := 8) rfl (hat 8 (by omega))
  simp only [List.flatMap_cons, List.flatMap_nil]
  rw [row_cells h0, row_cells h1, row_cells h2, row_cells h3, row_cells h4, row_cells h5, row_cells h6, row_cells h7, row_cells h8]
  rfl
end
/-! ### All of them -/
theorem gR : Tryz.prog.globalNamed "larder/ask.rows" = some 3 := by kernel_rfl
theorem gRType : (Tryz.prog.globals[3]?).map (·.type) = some 279 := by kernel_rfl
theorem rows_of {W : World} {r : List (String × DataW Unit)} (h : laidMet Tryz.prog (("larder/ask.rows", Rows.laid_larder_ask_rows) :: r) W) : ∀ j u, rowsC.flatten[j]? = some u → W.cell? ⟨3, j, none⟩ = some u := by
  obtain ⟨ps, ⟨g', t', cs, fuel, p, q, hg', ht', hvar, hd, _, _⟩, _⟩ := h
  obtain rfl := Option.some.inj (gR.symm.trans hg')
  obtain rfl := Option.some.inj (gRType.symm.trans ht')
  have e := rows_cells hd
  intro j u hj
  have := World.var?_cell gR hvar j
  rw [this]
  rw [← e] at hj
  simpa using hj
theorem gG : Tryz.prog.globalNamed "strconv.ErrRange" = some 10 := by kernel_rfl
theorem gGType : (Tryz.prog.globals[10]?).map (·.type) = some 80 := by kernel_rfl
theorem gY : Tryz.prog.globalNamed "strconv.ErrSyntax" = some 9 := by kernel_rfl
theorem gYType : (Tryz.prog.globals[9]?).map (·.type) = some 80 := by kernel_rfl
theorem gM : Tryz.prog.globalNamed "larder/kept.errNoRoom" = some 5 := by kernel_rfl
theorem gMType : (Tryz.prog.globals[5]?).map (·.type) = some 80 := by kernel_rfl
theorem iface_cells {H : Type} {enc : TypeId × Value → H} {P : Program} {w : World} {base : Nat} {sp : Nat → Bool} {held : Bool} {fuel : Nat} {cs : List Value} {p : List MemPlace} {t : TypeId} {ms : Array (String × TypeId)} {nm : String} {d : DataW H} (ht : P.underlying t = some (.interface ms)) (h : DataW.trod enc P w base sp held fuel t cs = some (.iface nm d, p)) : ∃ u v, cs = [.iface u v] := by
  cases fuel with
  | zero => simp [DataW.trod] at h
  | succ n =>
    unfold DataW.trod at h
    rw [ht] at h
    split at h <;> simp_all
theorem sentinel_of {W : World} {n nm : String} {d : DataW Unit} {r : List (String × DataW Unit)} {g : Nat} (h : laidMet Tryz.prog ((n, .iface nm d) :: r) W) (hg : Tryz.prog.globalNamed n = some g) (ht : (Tryz.prog.globals[g]?).map (·.type) = some 80) : ∃ t p, W.cell? ⟨g, 0, none⟩ = some (.iface t p) := by
  obtain ⟨ps, ⟨g', t', cs, fuel, p, q, hg', ht', hvar, hd, _, _⟩, _⟩ := h
  obtain rfl := Option.some.inj (hg.symm.trans hg')
  obtain rfl := Option.some.inj (ht.symm.trans ht')
  obtain ⟨u, v, e⟩ := iface_cells Tryz.underlying80 hd
  have := World.var?_cell hg hvar 0
  refine ⟨u, v, ?_⟩
  rw [this]
  rw [show cs = #[.iface u v] by cases cs; simpa using e]
  rfl
theorem last_row : (((begin Tryz.prog (fun _ _ => 0) default).world.heap[13 - 1]?).bind Obj.row?).isSome = true := by kernel_rfl
theorem sz_of {W : World} (h : W.ShapedOpen Tryz.prog) : 13 ≤ W.heap.size := by
  obtain ⟨x, hx⟩ := Option.isSome_iff_exists.1 last_row
  obtain ⟨cs, hc, _⟩ := h.1 (13 - 1) x.1 x.2 (of_decide_eq_true (by kernel_rfl)) hx
  have := (Array.getElem?_eq_some_iff.1 hc).1
  omega
theorem gl_at {W : World} (h : laidMetH Tryz.prog Rows.signedRow.laid W) (hsh : W.ShapedOpen Tryz.prog) : GL W := by
  obtain ⟨h1, hh⟩ := parts h
  have h3 := laidMet.tail (laidMet.tail h1)
  have h4 := laidMet.tail h3
  have h5 := laidMet.tail h4
  have h7 := laidMet.tail (laidMet.tail h5)
  have h8 := laidMet.tail h7
  have h9 := laidMet.tail h8
  have h10 := laidMet.tail h9
  have tP : Lib.TabIs Tryz.prog W "internal/strconv.uint64pow10" .u64 Lib.pow10Tab := Lib.tabIs_of_head gP gPType Tryz.underlying261 Tryz.underlying199 cellsU cellsP h3
  have tS : Lib.TabIs Tryz.prog W "larder/mark.firstState" .u32 zS := Lib.tabIs_of_head gS gSType Tryz.underlying196 Tryz.underlying195 cells1 cells8 h4
  have tK : Lib.TabIs Tryz.prog W "larder/mark.roundWords" .u32 zK := Lib.tabIs_of_head gK gKType Tryz.underlying312 Tryz.underlying195 cells1 cells64 h5
  have cS : ∀ j, j < 8 → W.cell? ⟨0, j, none⟩ = some (.int .u32 (hL.getD j 0 : Nat)) := fun j hj => by rw [tS.cell gS j (by rw [zS_len]; exact hj), zS_get j hj]
  have cK : ∀ j, j < 64 → W.cell? ⟨4, j, none⟩ = some (.int .u32 (kL.getD j 0 : Nat)) := fun j hj => by rw [tK.cell gK j (by rw [zK_len]; exact hj), zK_get j hj]
  have hm : ∃ m, W.cell? ⟨6, 0, none⟩ = some (.int .i64 m) := Go.Proofs.cell_of_shapedOpen_int (zero := #[.int .i64 0]) (t := 3) hsh (of_decide_eq_true (by kernel_rfl)) (by kernel_rfl) rfl (by kernel_rfl) (by kernel_rfl) Tryz.underlying3
  have hsz := sz_of hsh
  refine ⟨⟨hm, tP, ?_⟩, ⟨cK, cS, cell_lt (cK 0 (by omega)), cell_lt (cS 0 (by omega))⟩, handle_of hh, sentinel_of h10 gM gMType, sentinel_of h8 gY gYType, sentinel_of h7 gG gGType, rows_of h9, hsz⟩
  exact Nat.le_trans P.gTop_le hsz
end Go.Proofs.YtbllcgibmgbnjaaGreatDoor.E
namespace Go.Proofs.YtbllcgibmgbnjaaGreatDoor.E
open Go.ChangeShapes Go.WideShapes Go.ChangeAt Go.RowKit

/-- A datum's cells, in order. -/
def flat : DataW Unit → List Value
  | .lit (.int k z) => [.int k z]
  | .lit (.bool b) => [.bool b]
  | .lit (.string l) => [.string ⟨l.toArray⟩]
  | .agg ps => flats ps
  | _ => []
  where flats : List (DataW Unit) → List Value
  | [] => []
  | d :: r => flat d ++ flats r
/-- A block with these cells. -/
def put (cs : List Value) : Obj → Obj
  | .cells _ t frozen => .cells cs.toArray t frozen
  | o => o
abbrev text0 : List UInt8 := [118, 97, 108, 117, 101, 32, 111, 117, 116, 32, 111, 102, 32, 114, 97, 110, 103, 101]
abbrev text1 : List UInt8 := [105, 110, 118, 97, 108, 105, 100, 32, 115, 121, 110, 116, 97, 120]
abbrev text2 : List UInt8 := [116, 104, 101, 32, 108, 111, 103, 32, 104, 97, 115, 32, 110, 111, 32, 114, 111, 111, 109, 32, 102, 111, 114, 32, 116, 104, 101, 32, 102, 114, 97, 109, 101]
/-- What the listed variables hold; the errors' texts lie from block n on. -/
def laidHeap (h : Array Obj) (n : Nat) : Array Obj :=
  (((((((((((((((h.modify 7 (put (flat Rows.laid_math_bits_deBruijn32tab))).modify 8 (put (flat Rows.laid_math_bits_deBruijn64tab))).modify 2 (put (flat Rows.laid_internal_strconv_uint64pow10))).modify 0 (put (flat Rows.laid_larder_mark_firstState))).modify 4 (put (flat Rows.laid_larder_mark_roundWords))).modify 12 (put (flat Rows.laid_unicode_utf8_acceptRanges))).modify 11 (put (flat Rows.laid_unicode_utf8_first))).modify 3 (put (flat Rows.laid_larder_ask_rows))).modify 1 (put [.iface 264 (.agg #[.pointer (some ⟨13, 80, none⟩)])])).modify 10 (put [.iface 370 (.pointer (some ⟨n, 0, none⟩))])).modify 9 (put [.iface 370 (.pointer (some ⟨n + 1, 0, none⟩))])).modify 5 (put [.iface 370 (.pointer (some ⟨n + 2, 0, none⟩))])).push (.cells #[.string ⟨text0.toArray⟩] 372 (0, 0))).push (.cells #[.string ⟨text1.toArray⟩] 372 (0, 0))).push (.cells #[.string ⟨text2.toArray⟩] 372 (0, 0)))
/-- A world for the witness: the settled one, the variables as their initialisers lay them. -/
noncomputable def laidWorld (os : Os) : World :=
  { World.holding Tryz.prog os ⟨#[], #[], []⟩ with heap := laidHeap (World.holding Tryz.prog os ⟨#[], #[], []⟩).heap (World.holding Tryz.prog os ⟨#[], #[], []⟩).heap.size }
end Go.Proofs.YtbllcgibmgbnjaaGreatDoor.E
