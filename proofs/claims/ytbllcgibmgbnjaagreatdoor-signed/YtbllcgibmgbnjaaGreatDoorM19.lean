/-
  KMth3, KKeep, KKeep2, KSgn, KSet.
-/
import Derived.Test.YtbllcgibmgbnjaaGreatDoorM18
import Derived.Test.YtbllcgibmgbnjaaGreatDoorM08
import Derived.Maps.RangeWalk
import Derived.Maps.OwnOps
import Derived.Maps.OwnSet
namespace Go.Proofs.YtbllcgibmgbnjaaGreatDoor.P

/-- A request's texts are short. -/
structure AskFit (user : Tx) (q : AskP) : Prop where
  u : user.length ≤ 10000
  b : q.bucket.length ≤ 10000
  k : q.key.length ≤ 10000
  y : q.body.length ≤ 10000
  v : q.version ≤ 1000000000
/-- Who asks, and for what: a refusal's number, if it may not be. -/
def readP (us : Us) (clock : Nat) (t : Tx) : Except Nat (Tx × AskP) :=
  if (R.parseOf t).1 = 1 then .error 413 else if (R.parseOf t).1 ≠ 0 then .error 400 else
  match signerP (R.parseOf t).2.method (R.parseOf t).2.path (R.parseOf t).2.query (R.parseOf t).2.headers (R.parseOf t).2.body us clock with
  | none => .error 403
  | some u => match askP (R.parseOf t).2.method (R.parseOf t).2.path (R.parseOf t).2.query (R.parseOf t).2.body with
    | none => .error 400
    | some q => .ok (u, q)
theorem numP_hi {t : Tx} {lo hi n : Nat} (h : numP t lo hi = some n) : n ≤ hi := by
  unfold numP at h
  split at h
  · split at h
    · cases h
    · rename_i v hv hn
      cases h
      omega
  · cases h
theorem pairA_keep (a : AskP) (n v : Tx) : (pairA a n v).1.kind = a.kind ∧ (pairA a n v).1.bucket = a.bucket ∧ (pairA a n v).1.key = a.key ∧ (pairA a n v).1.body = a.body ∧ (pairA a n v).1.action = a.action ∧ (a.version ≤ 999999999 → (pairA a n v).1.version ≤ 999999999) := by
  unfold pairA
  split
  · exact ⟨rfl, rfl, rfl, rfl, rfl, id⟩
  · split
    · exact ⟨rfl, rfl, rfl, rfl, rfl, id⟩
    · split
      · exact ⟨rfl, rfl, rfl, rfl, rfl, id⟩
      · split
        · exact ⟨rfl, rfl, rfl, rfl, rfl, id⟩
        · split
          · refine ⟨rfl, rfl, rfl, rfl, rfl, fun _ => ?_⟩
            show optN (numP v 1 999999999) ≤ _
            cases h : numP v 1 999999999 with
            | none => simp [optN]
            | some n => exact numP_hi h
          · exact ⟨rfl, rfl, rfl, rfl, rfl, id⟩
theorem pairsA_keep : ∀ (ps : Hs) (a : AskP), (pairsA a ps).1.kind = a.kind ∧ (pairsA a ps).1.bucket = a.bucket ∧ (pairsA a ps).1.key = a.key ∧ (pairsA a ps).1.body = a.body ∧ (pairsA a ps).1.action = a.action ∧ (a.version ≤ 999999999 → (pairsA a ps).1.version ≤ 999999999)
  | [], a => ⟨rfl, rfl, rfl, rfl, rfl, id⟩
  | p :: ps, a => by
    have h1 := pairA_keep a p.1 p.2
    have h2 := pairsA_keep ps (pairA a p.1 p.2).1
    unfold pairsA
    split
    · exact ⟨h2.1.trans h1.1, h2.2.1.trans h1.2.1, h2.2.2.1.trans h1.2.2.1, h2.2.2.2.1.trans h1.2.2.2.1, h2.2.2.2.2.1.trans h1.2.2.2.2.1, fun h => h2.2.2.2.2.2 (h1.2.2.2.2.2 h)⟩
    · exact h1
theorem row_kind {r : RowP} (h : r ∈ rowsP) : r.kind ≤ 8 := by
  simp only [rowsP, List.mem_cons, List.not_mem_nil, or_false] at h
  rcases h with rfl | rfl | rfl | rfl | rfl | rfl | rfl | rfl | rfl <;> simp
/-- What an ask says. -/
theorem ask_fit {m p : Tx} {q : Hs} {y : Tx} {a : AskP} (h : askP m p q y = some a) : a.kind ≤ 8 ∧ bktP a.bucket = true ∧ (a.key = [] ∨ keyP a.key = true) ∧ a.body = y ∧ a.version ≤ 999999999 := by
  unfold askP at h
  split at h
  · cases h
  · rename_i r hr
    have hm : r ∈ rowsP := List.mem_of_find?_eq_some hr
    split at h
    · rename_i hc
      split at h
      · cases h
        have k := pairsA_keep (xOut q) (ask0 r p y)
        refine ⟨by rw [k.1]; exact row_kind hm, by rw [k.2.1]; exact hc.1, ?_, by rw [k.2.2.2.1]; rfl, k.2.2.2.2.2 (Nat.zero_le _)⟩
        rw [k.2.2.1]
        rcases hc.2.1 with e | e
        · left
          show (pathP p).2.1 = []
          unfold pathP at e ⊢
          unfold Lib.cut at e ⊢
          split at e
          · cases e
          · rename_i hn; rw [if_neg hn]
        · exact .inr e
      · cases h
    · cases h
theorem signer_in {m p : Tx} {q hs : Hs} {y : Tx} {us : Us} {clock : Nat} {u : Tx} (h : signerP m p q hs y us clock = some u) : ∃ s, (u, s) ∈ us := by
  unfold signerP at h
  split at h
  · cases h
  · split at h
    · cases h
    · split at h
      · cases h
      · rw [Option.map_eq_some_iff] at h
        obtain ⟨x, hx, rfl⟩ := h
        exact ⟨x.2, List.mem_of_find?_eq_some hx⟩
theorem parse_body (t : Tx) : (R.parseOf t).2.body.length ≤ 300 := by
  unfold R.parseOf
  split
  · simp
  · split
    · simp
    · split
      · simp
      · simp only; omega
theorem read_nums {us : Us} {clock : Nat} {t : Tx} {n : Nat} (h : readP us clock t = .error n) : n = 400 ∨ n = 403 ∨ n = 413 := by
  unfold readP at h
  split at h
  · cases h; simp
  · split at h
    · cases h; simp
    · split at h
      · cases h; simp
      · split at h
        · cases h; simp
        · cases h
theorem read_num {us : Us} {clock : Nat} {t : Tx} {n : Nat} (h : readP us clock t = .error n) : n ≠ 200 := by
  rcases read_nums h with e | e | e <;> omega
theorem read_fit {us : Us} {clock : Nat} {t u : Tx} {q : AskP} (hu : ∀ x ∈ us, x.1.length ≤ 1000 ∧ x.2.length ≤ 1000000) (h : readP us clock t = .ok (u, q)) : AskFit u q ∧ q.kind ≤ 8 := by
  unfold readP at h
  split at h
  · cases h
  · split at h
    · cases h
    · split at h
      · cases h
      · rename_i u' hs
        split at h
        · cases h
        · rename_i q' hq
          cases h
          have f := ask_fit hq
          obtain ⟨x, hx⟩ := signer_in hs
          have h1 := (hu _ hx).1
          have h2 : q.bucket.length ≤ 20 := by
            have := f.2.1; unfold bktP at this; rw [Bool.and_eq_true] at this; exact (of_decide_eq_true this.1).2
          have h3 : q.key.length ≤ 40 := by
            rcases f.2.2.1 with e | e
            · rw [e]; simp
            · unfold keyP at e; rw [Bool.and_eq_true] at e; exact (of_decide_eq_true e.1).2
          have h4 : q.body.length ≤ 300 := by rw [f.2.2.2.1]; exact parse_body t
          exact ⟨⟨by simp only at h1; omega, by omega, by omega, by omega, by have := f.2.2.2.2; omega⟩, f.1⟩
end Go.Proofs.YtbllcgibmgbnjaaGreatDoor.P
namespace Go.Proofs.YtbllcgibmgbnjaaGreatDoor.P
open Go.RowKit
open Go.Proofs.YtbllcgibmgbnjaaGreatDoor.C (ret_bool ret_int ret_str)

/-- Which of n things a raw number speaks of. -/
def pickP (c : Int) (n : Nat) : Nat := (if c < 0 then -(c + 1) else c).toNat % n
theorem pickP_lt (c : Int) {n : Nat} (h : 1 ≤ n) : pickP c n < n := Nat.mod_lt _ (by omega)
set_option maxHeartbeats 1000000 in
theorem pick_any (c : Int) (hc : -9223372036854775808 ≤ c ∧ c ≤ 9223372036854775807) (n : Nat) (h1 : 1 ≤ n) (h2 : n ≤ 1000000000000) (w : World) :
    Calls Tryz.prog 10 #[.int .i64 c, .int .i64 (n : Int)] w fun e w' => e = .returned (.int .i64 (pickP c n : Int)) ∧ w = w' := by
  have hn0 : ((n : Int) == 0) = false := by simp; omega
  by_cases h : c < 0
  · have HR : Hid ((pickP c n : Int) = -(c + 1).tmod (n : Int)) := by
      show _ = _; unfold pickP; rw [if_pos h]; have : ((-(c + 1)).toNat : Int) = -(c + 1) := by omega
      rw [Int.natCast_emod, this, ← Int.tmod_eq_emod_of_nonneg (by omega), Int.neg_tmod]
    have e1 : IntKind.i64.wrap (c + 1) = c + 1 := by unfold IntKind.wrap; simp [IntKind.bits, IntKind.signed]; omega
    have e2 : IntKind.i64.wrap (-(c + 1)) = -(c + 1) := by unfold IntKind.wrap; simp [IntKind.bits, IntKind.signed]; omega
    go_enter Tryz.func10, Tryz.ntmps10
    go_wp2
    go_ret
    exact ⟨ret_int HR.out.symm, rfl⟩
  · have HR : Hid ((pickP c n : Int) = c % (n : Int)) := by
      show _ = _; unfold pickP; rw [if_neg h]; have : (c.toNat : Int) = c := by omega
      rw [Int.natCast_emod, this]
    go_enter Tryz.func10, Tryz.ntmps10
    go_wp2
    go_ret
    exact ⟨ret_int HR.out.symm, rfl⟩
set_option maxHeartbeats 1000000 in
theorem cutK_any (s : Tx) (n : Nat) (_hs : s.length ≤ 281474976710656) (_hn : n ≤ 1000000) (w : World) :
    Calls Tryz.prog 9 #[str s, .int .i64 (n : Int)] w fun e w' => e = .returned (str (s.take n)) ∧ w = w' := by
  by_cases h : n < s.length
  · have t1 : decide ((n : Int) < (s.length : Int)) = true := by simp; omega
    go_enter Tryz.func9, Tryz.ntmps9
    go_wp2
    go_ret
    exact ⟨ret_str (Lib.extract_from_zero _ _), rfl⟩
  · have t1 : decide ((n : Int) < (s.length : Int)) = false := by simp; omega
    have HR : Hid (s.take n = s) := List.take_of_length_le (by omega)
    go_enter Tryz.func9, Tryz.ntmps9
    go_wp2
    go_ret
    exact ⟨ret_str HR.out.symm, rfl⟩
set_option maxHeartbeats 1000000 in
theorem saidK_any (m t more y : Tx) (h1 : m.length ≤ 1000000000) (h2 : t.length ≤ 1000000000) (h3 : more.length ≤ 1000000000) (h4 : y.length ≤ 1000000000) (w : World) (E : R.Env w) :
    Calls Tryz.prog 32 #[str m, str t, str more, str y] w fun e w' => e = .returned (str (saidT m t more y)) ∧ Below w.heap.size w w' := by
  have I : Hid (_) := R.itoa_r y.length w E (by omega)
  have l1 : (lenT y).length ≤ 13 := itoa_short (by omega)
  have HT : Hid (saidT m t more y = m ++ [32] ++ t ++ [10, 104, 111, 115, 116, 58, 32, 104, 101, 114, 101, 10, 108, 101, 110, 103, 116, 104, 58, 32] ++ lenT y ++ [10] ++ more ++ [10] ++ y) := rfl
  unfold lenT at l1 HT
  rw [HT.out]
  generalize Lib.itoa (y.length : Int) = q at *
  go_enter Tryz.func32, Tryz.ntmps32
  go_wp2_with (go_at_call 34; refine Calls.mono I.out ?_; rintro e w1 ⟨rfl, b1⟩)
  go_ret
  exact ⟨ret_str rfl, b1⟩
theorem told200 : toldT 200 = [50, 48, 48, 32, 79, 75] := by
  unfold toldT
  rw [itoa_nat, R.dd_big (by decide), R.dd_big (by decide), R.dd_small (by decide)]
  rfl
/-- A text of bytes from 32 to 126. -/
def showC (b : UInt8) : UInt8 := 32 + b % 95
def showT (s : Tx) (n : Nat) : Tx := if s.take n = [] then [107] else (s.take n).map showC
theorem showC_ok (b : UInt8) : 32 ≤ (showC b).toNat ∧ (showC b).toNat ≤ 126 := by
  have h1 : (b % 95).toNat = b.toNat % 95 := UInt8.toNat_mod b 95
  have h2 : (showC b).toNat = (32 + (b % 95).toNat) % 256 := UInt8.toNat_add 32 (b % 95)
  omega
theorem showC_nat (b : UInt8) : ((showC b).toNat : Int) = 32 + (b.toNat : Int) % 95 := by
  have h1 : (b % 95).toNat = b.toNat % 95 := UInt8.toNat_mod b 95
  have h2 : (showC b).toNat = (32 + (b % 95).toNat) % 256 := UInt8.toNat_add 32 (b % 95)
  omega
theorem conv_one (c : UInt8) (w : World) : (convert 70 9 (.slice (some ⟨w.heap.size, 0, none⟩) 1 1)).run Tryz.prog (w.alloc (.cells #[.int .u8 (c.toNat : Int)] 5)) = .ok (str [c]) (w.alloc (.cells #[.int .u8 (c.toNat : Int)] 5)) :=
  owns.conv (B := 0) (l := [c]) ⟨rfl, .inr ⟨w.heap.size, 1, #[u8v c], rfl, Nat.zero_le _, heap_alloc_new _ _, by simp, by decide, rfl, rfl⟩⟩
set_option maxHeartbeats 2000000 in
set_option maxRecDepth 20000 in
theorem shown_any (s : Tx) (n : Nat) (hs : s.length ≤ 281474976710656) (hn : n ≤ 1000000) (w : World) :
    Calls Tryz.prog 13 #[str s, .int .i64 (n : Int)] w fun e w' => e = .returned (str (showT s n)) ∧ Below w.heap.size w w' := by
  go_enter Tryz.func13, Tryz.ntmps13
  go_wp2
  go_loopw [5, 6] (fun v i wr => ∃ k : Nat, k ≤ s.length ∧ k ≤ n ∧ i = .int .i64 k ∧ v = str ((s.take k).map showC) ∧ Below w.heap.size w wr) (fun _ i _ => s.length - (intOf i).toNat)
  case atStart => exact ⟨0, Nat.zero_le _, Nat.zero_le _, rfl, rfl, Below.refl _ _⟩
  case round =>
    obtain ⟨k, hk, hkn, rfl, rfl, hb⟩ := hrel
    have hsz := hb.size
    by_cases h12 : k < s.length ∧ k < n
    · obtain ⟨h1, h2⟩ := h12
      have t1 : decide ((k : Int) < (s.length : Int)) = true := by simp; omega
      have t2 : decide ((k : Int) < (n : Int)) = true := by simp; omega
      have HY : Hid ((s.take (k + 1)).map showC = (s.take k).map showC ++ [showC s[k]]) := by
        show _ = _; rw [List.take_succ_eq_append_getElem h1, List.map_append]; rfl
      have hml : ((s.take k).map showC).length ≤ 1000000 := by simp; omega
      have CV : Hid (_) := conv_one (showC s[k]) wr
      rw [showC_nat] at CV
      have BB := hb.alloc hsz (.cells #[.int .u8 (32 + (s[k].toNat : Int) % 95)] 5)
      generalize (s.take k).map showC = o at *
      go_wp2
      rw [show ((⟨s.toArray⟩ : ByteArray)[k]'(by simpa [ByteArray.size] using h1)) = s[k] from rfl, CV.out]
      simp only [Result.andThen]
      rw [Oper.upon_value]
      go_wp2
      go_roundw
      case rel => exact ⟨k + 1, by omega, by omega, by go_num, by rw [HY.out]; exact congrArg Value.string (ByteArray.ext (by simp [ByteArray.data_append])), BB⟩
      case measure => simp [intOf]; omega
    · have HS : Hid (showT s n = if (s.take k).map showC = [] then [107] else (s.take k).map showC) := by
        show _ = _
        have e : s.take n = s.take k := by
          rcases Nat.lt_or_ge k s.length with h | h
          · have : k = n := by omega
            rw [this]
          · rw [List.take_of_length_le h, List.take_of_length_le (by omega)]
        unfold showT; rw [e]; simp only [List.map_eq_nil_iff]
      generalize (s.take k).map showC = o at *
      by_cases h1 : k < s.length
      · have t1 : decide ((k : Int) < (s.length : Int)) = true := by simp; omega
        have t2 : decide ((k : Int) < (n : Int)) = false := by simp; omega
        cases o with
        | nil =>
          go_wp2
          go_ret
          exact ⟨by rw [HS.out]; rfl, hb⟩
        | cons c o =>
          go_wp2
          go_ret
          exact ⟨by rw [HS.out]; rfl, hb⟩
      · have t1 : decide ((k : Int) < (s.length : Int)) = false := by simp; omega
        cases o with
        | nil =>
          go_wp2
          go_ret
          exact ⟨by rw [HS.out]; rfl, hb⟩
        | cons c o =>
          go_wp2
          go_ret
          exact ⟨by rw [HS.out]; rfl, hb⟩
set_option maxHeartbeats 1000000 in
theorem putK_any (v : Nat) (hv : v ≤ 1000000000000) (w : World) (E : R.Env w) :
    Calls Tryz.prog 17 #[.int .i64 (v : Int)] w fun e w' => e = .returned (str (respT 200 [(tVersion, Lib.itoa (v : Int))] [])) ∧ Below w.heap.size w w' := by
  have I : Hid (_) := R.itoa_r v w E (by omega)
  have l1 : (Lib.itoa (v : Int)).length ≤ 13 := itoa_short hv
  have HT : Hid (respT 200 [(tVersion, Lib.itoa (v : Int))] [] = [50, 48, 48, 32, 79, 75, 10, 118, 101, 114, 115, 105, 111, 110, 58, 32] ++ Lib.itoa (v : Int) ++ [10, 10]) := by
    show _ = _
    unfold respT; rw [if_pos rfl]; rw [told200]; simp [hLine, tVersion]
  rw [HT.out]
  generalize Lib.itoa (v : Int) = q at *
  go_enter Tryz.func17, Tryz.ntmps17
  go_wp2_with (go_at_call 34; refine Calls.mono I.out ?_; rintro e w1 ⟨rfl, b1⟩)
  go_ret
  exact ⟨ret_str rfl, b1⟩
set_option maxHeartbeats 1000000 in
theorem gotK_any (v : Nat) (y : Tx) (hv : v ≤ 1000000000000) (hy : y.length ≤ 1000000000) (w : World) (E : R.Env w) :
    Calls Tryz.prog 18 #[.int .i64 (v : Int), str y] w fun e w' => e = .returned (str (respT 200 [(tVersion, Lib.itoa (v : Int)), (tLength, lenT y)] y)) ∧ Below w.heap.size w w' := by
  have I : Hid (_) := R.itoa_r v w E (by omega)
  have I2 : Hid (_) := fun w E => R.itoa_r y.length w E (by omega)
  have l1 : (Lib.itoa (v : Int)).length ≤ 13 := itoa_short hv
  have l2 : (lenT y).length ≤ 13 := itoa_short (by omega)
  have HT : Hid (respT 200 [(tVersion, Lib.itoa (v : Int)), (tLength, lenT y)] y = [50, 48, 48, 32, 79, 75, 10, 118, 101, 114, 115, 105, 111, 110, 58, 32] ++ Lib.itoa (v : Int) ++ [10, 108, 101, 110, 103, 116, 104, 58, 32] ++ lenT y ++ [10, 10] ++ y) := by
    show _ = _
    unfold respT; rw [if_pos rfl]; rw [told200]; simp [hLine, tVersion]
  unfold lenT at l2 HT
  rw [show lenT y = Lib.itoa (y.length : Int) from rfl, HT.out]
  generalize Lib.itoa (v : Int) = q at *
  generalize Lib.itoa (y.length : Int) = q2 at *
  go_enter Tryz.func18, Tryz.ntmps18
  go_wp2_with fail
  refine Calls.mono I.out ?_
  rintro e w1 ⟨rfl, b1⟩
  have I3 : Hid (_) := I2.out w1 (E.call b1)
  go_wp2_with fail
  refine Calls.mono I3.out ?_
  rintro e w2 ⟨rfl, b2⟩
  go_wp2
  go_ret
  exact ⟨ret_str rfl, below_trans b1 b2⟩
/-- The canonical form of a text, as it is signed (if it has none: the empty text). -/
def formOf (s : Tx) : Tx := (R.cnOf s tNames).1
theorem form_len (s : Tx) : (formOf s).length ≤ 140737488355328 := by
  unfold formOf R.cnOf
  split
  · have F := R.parse_fits s
    cases h : R.canonOf (R.parseOf s).2.method (R.parseOf s).2.path (R.parseOf s).2.query (R.parseOf s).2.headers (R.parseOf s).2.body tNames with
    | none => simp
    | some t => exact canonOf_len F.m F.p F.q F.qs (by simp) F.hs h
  · simp
def sigOf (secret : Tx) (t : Nat) (s : Tx) : Tx := (R.signOf secret (t : Int) (formOf s)).1
theorem sig_len (secret : Tx) (t : Nat) (s : Tx) : (sigOf secret t s).length ≤ 64 := by
  unfold sigOf R.signOf
  split
  · simp
  · split
    · simp
    · have := (mark_ok (secret := secret) (t := (t : Int).toNat) (form := formOf s)).2.2.2
      unfold markT at this; simp only; omega
/-- A request that is signed by header. -/
def headT (user secret : Tx) (t : Nat) (m tg y : Tx) : Tx := saidT m tg ([97, 117, 116, 104, 58, 32] ++ authT user t (sigOf secret t (saidT m tg [] y)) ++ [10]) y
set_option maxHeartbeats 1000000 in
theorem byHeader_any (user secret : Tx) (t : Nat) (m tg y : Tx) (ht : t ≤ 1000000000000) (h0 : user.length ≤ 1000) (hsec : secret.length ≤ 1000) (h1 : m.length ≤ 1000) (h2 : tg.length ≤ 1000000000) (h4 : y.length ≤ 1000000) (w : World) (G : GL w) :
    Calls Tryz.prog 14 #[str user, str secret, .int .i64 (t : Int), str m, str tg, str y] w fun e w' => e = .returned (str (headT user secret t m tg y)) ∧ Below w.heap.size w w' := by
  have S1 : Hid (_) := saidK_any m tg [] y (by omega) (by omega) (by simp) (by omega) w G.env
  have hsl : (saidT m tg [] y).length ≤ 1000000000000 := by
    have : (lenT y).length ≤ 13 := itoa_short (by omega)
    simp [saidT]; omega
  have C : Hid (_) := fun w E L => R.lcanon_any (saidT m tg [] y) tNames w E L hsl (by simp)
  have hfl := form_len (saidT m tg [] y)
  have SG : Hid (_) := fun w E L => R.lsign_any secret (t : Int) (formOf (saidT m tg [] y)) w E L (by omega) (by omega)
  have hgl := sig_len secret t (saidT m tg [] y)
  have I : Hid (_) := fun w E => R.itoa_r t w E (by omega)
  have l1 : (Lib.itoa (t : Int)).length ≤ 13 := itoa_short ht
  have HT : Hid (headT user secret t m tg y = saidT m tg ([97, 117, 116, 104, 58, 32] ++ authT user t (sigOf secret t (saidT m tg [] y)) ++ [10]) y) := rfl
  have HA : Hid (∀ q, [97, 117, 116, 104, 58, 32] ++ authT user t q ++ [10] = [97, 117, 116, 104, 58, 32, 76, 49, 32] ++ user ++ [32] ++ Lib.itoa (t : Int) ++ [32] ++ tNames ++ [32] ++ q ++ [10]) := fun q => by simp [authT]
  have HM : Hid (∀ q : Tx, q.length ≤ 64 → ([97, 117, 116, 104, 58, 32] ++ authT user t q ++ [10]).length ≤ 1000000) := fun q hq => by rw [HA.out]; simp; omega
  have S2 : Hid (_) := fun w E => saidK_any m tg ([97, 117, 116, 104, 58, 32] ++ authT user t (sigOf secret t (saidT m tg [] y)) ++ [10]) y (by omega) (by omega) (by have := HM.out _ hgl; omega) (by omega) w E
  unfold sigOf at S2 HT hgl
  unfold formOf at SG S2 HT hgl
  rw [HT.out]
  simp only [HA.out] at *
  generalize saidT m tg [] y = s1 at *
  generalize R.cnOf s1 tNames = cx at *
  obtain ⟨ct, cn⟩ := cx
  simp only at *
  generalize R.signOf secret (t : Int) ct = sx at *
  obtain ⟨st, sn⟩ := sx
  simp only [R.sgEnd] at *
  generalize Lib.itoa (t : Int) = q at *
  go_enter Tryz.func14, Tryz.ntmps14
  go_wp2_with fail
  refine Calls.mono S1.out ?_
  rintro e w1 ⟨rfl, b1⟩
  have G1 := G.call b1
  go_wp2_with fail
  refine Calls.mono (C.out w1 G1.env G1.laid) ?_
  rintro e w2 ⟨rfl, b2⟩
  have G2 := G1.call b2
  go_wp2_with fail
  refine Calls.mono (SG.out w2 G2.env G2.laid) ?_
  rintro e w3 ⟨rfl, b3⟩
  have G3 := G2.call b3
  go_wp2_with fail
  refine Calls.mono (I.out w3 G3.env) ?_
  rintro e w4 ⟨rfl, b4⟩
  have G4 := G3.call b4
  have S3 : Hid (_) := S2.out w4 G4.env
  go_wp2_with fail
  refine Calls.mono S3.out ?_
  rintro e w5 ⟨rfl, b5⟩
  go_wp2
  go_ret
  exact ⟨by simp, below_trans (below_trans (below_trans (below_trans b1 b2) b3) b4) b5⟩
end Go.Proofs.YtbllcgibmgbnjaaGreatDoor.P
namespace Go.Proofs.YtbllcgibmgbnjaaGreatDoor.P
open Go.RowKit
open Go.Proofs.YtbllcgibmgbnjaaGreatDoor.C (ret_bool ret_int ret_str)

/-- The target, with all but the signature. -/
def quT (user : Tx) (t f : Nat) (tg : Tx) : Tx := tg ++ [63, 120, 45, 117, 115, 101, 114, 61] ++ user ++ [38, 120, 45, 116, 105, 109, 101, 61] ++ Lib.itoa (t : Int) ++ [38, 120, 45, 102, 111, 114, 61] ++ Lib.itoa (f : Int) ++ [38, 120, 45, 108, 105, 115, 116, 61, 104, 111, 115, 116, 37, 51, 66, 108, 101, 110, 103, 116, 104]
def queryT (user secret : Tx) (t f : Nat) (m tg y : Tx) : Tx := saidT m (quT user t f tg ++ [38, 120, 45, 115, 105, 103, 61] ++ sigOf secret t (saidT m (quT user t f tg) [] y)) [] y
set_option maxHeartbeats 1000000 in
theorem byQuery_any (user secret : Tx) (t f : Nat) (m tg y : Tx) (ht : t ≤ 1000000000000) (hf : f ≤ 1000000000000) (h0 : user.length ≤ 1000) (hsec : secret.length ≤ 1000) (h1 : m.length ≤ 1000) (h2 : tg.length ≤ 1000000) (h4 : y.length ≤ 1000000) (w : World) (G : GL w) :
    Calls Tryz.prog 15 #[str user, str secret, .int .i64 (t : Int), .int .i64 (f : Int), str m, str tg, str y] w fun e w' => e = .returned (str (queryT user secret t f m tg y)) ∧ Below w.heap.size w w' := by
  have l1 : (Lib.itoa (t : Int)).length ≤ 13 := itoa_short ht
  have l2 : (Lib.itoa (f : Int)).length ≤ 13 := itoa_short hf
  have hq : (quT user t f tg).length ≤ 2000000 := by simp [quT]; omega
  have I1 : Hid (_) := fun w E => R.itoa_r t w E (by omega)
  have I2 : Hid (_) := fun w E => R.itoa_r f w E (by omega)
  have S1 : Hid (∀ w, R.Env w → Calls Tryz.prog 32 #[str m, str (quT user t f tg), .string ⟨#[]⟩, str y] w fun e w' => e = .returned (str (saidT m (quT user t f tg) [] y)) ∧ Below w.heap.size w w') := fun w E => saidK_any m (quT user t f tg) [] y (by omega) (by omega) (by simp) (by omega) w E
  have hsl : (saidT m (quT user t f tg) [] y).length ≤ 1000000000000 := by
    have : (lenT y).length ≤ 13 := itoa_short (by omega)
    simp [saidT]; omega
  have C : Hid (_) := fun w E L => R.lcanon_any (saidT m (quT user t f tg) [] y) tNames w E L hsl (by simp)
  have hfl := form_len (saidT m (quT user t f tg) [] y)
  have SG : Hid (_) := fun w E L => R.lsign_any secret (t : Int) (formOf (saidT m (quT user t f tg) [] y)) w E L (by omega) (by omega)
  have hgl := sig_len secret t (saidT m (quT user t f tg) [] y)
  have HT : Hid (queryT user secret t f m tg y = saidT m (quT user t f tg ++ [38, 120, 45, 115, 105, 103, 61] ++ sigOf secret t (saidT m (quT user t f tg) [] y)) [] y) := rfl
  have S2 : Hid (∀ w, R.Env w → Calls Tryz.prog 32 #[str m, str (quT user t f tg ++ [38, 120, 45, 115, 105, 103, 61] ++ sigOf secret t (saidT m (quT user t f tg) [] y)), .string ⟨#[]⟩, str y] w fun e w' => e = .returned (str (saidT m (quT user t f tg ++ [38, 120, 45, 115, 105, 103, 61] ++ sigOf secret t (saidT m (quT user t f tg) [] y)) [] y)) ∧ Below w.heap.size w w') := fun w E => saidK_any m (quT user t f tg ++ [38, 120, 45, 115, 105, 103, 61] ++ sigOf secret t (saidT m (quT user t f tg) [] y)) [] y (by omega) (by simp; omega) (by simp) (by omega) w E
  have HQ : Hid (quT user t f tg = tg ++ [63, 120, 45, 117, 115, 101, 114, 61] ++ user ++ [38, 120, 45, 116, 105, 109, 101, 61] ++ Lib.itoa (t : Int) ++ [38, 120, 45, 102, 111, 114, 61] ++ Lib.itoa (f : Int) ++ [38, 120, 45, 108, 105, 115, 116, 61, 104, 111, 115, 116, 37, 51, 66, 108, 101, 110, 103, 116, 104]) := rfl
  unfold sigOf at S2 HT hgl
  unfold formOf at SG S2 HT hgl
  rw [HT.out]
  generalize hquq : quT user t f tg = qu at *
  generalize saidT m qu [] y = s1 at *
  generalize R.cnOf s1 tNames = cx at *
  obtain ⟨ct, cn⟩ := cx
  simp only at *
  generalize R.signOf secret (t : Int) ct = sx at *
  obtain ⟨st, sn⟩ := sx
  simp only [R.sgEnd] at *
  generalize Lib.itoa (t : Int) = q1 at *
  generalize Lib.itoa (f : Int) = q2 at *
  clear hquq
  go_enter Tryz.func15, Tryz.ntmps15
  go_wp2_with fail
  refine Calls.mono (I1.out w G.env) ?_
  rintro e w1 ⟨rfl, b1⟩
  have G1 := G.call b1
  go_wp2_with fail
  refine Calls.mono (I2.out w1 G1.env) ?_
  rintro e w2 ⟨rfl, b2⟩
  have G2 := G1.call b2
  have S1' : Hid (_) := S1.out w2 G2.env
  rw [HQ.out] at S1'
  go_wp2_with fail
  refine Calls.mono S1'.out ?_
  rintro e w3 ⟨rfl, b3⟩
  have G3 := G2.call b3
  go_wp2_with fail
  refine Calls.mono (C.out w3 G3.env G3.laid) ?_
  rintro e w4 ⟨rfl, b4⟩
  have G4 := G3.call b4
  go_wp2_with fail
  refine Calls.mono (SG.out w4 G4.env G4.laid) ?_
  rintro e w5 ⟨rfl, b5⟩
  have G5 := G4.call b5
  have S3 : Hid (_) := S2.out w5 G5.env
  have hx : (qu ++ [38, 120, 45, 115, 105, 103, 61] ++ st) = tg ++ [63, 120, 45, 117, 115, 101, 114, 61] ++ user ++ [38, 120, 45, 116, 105, 109, 101, 61] ++ q1 ++ [38, 120, 45, 102, 111, 114, 61] ++ q2 ++ [38, 120, 45, 108, 105, 115, 116, 61, 104, 111, 115, 116, 37, 51, 66, 108, 101, 110, 103, 116, 104] ++ [38, 120, 45, 115, 105, 103, 61] ++ st := by rw [HQ.out]
  have HX : Hid (_) := hx
  rw [hx] at S3
  clear hx
  go_wp2_with fail
  refine Calls.mono S3.out ?_
  rintro e w6 ⟨rfl, b6⟩
  go_wp2
  go_ret
  exact ⟨by rw [HX.out]; simp, below_trans (below_trans (below_trans (below_trans (below_trans b1 b2) b3) b4) b5) b6⟩
end Go.Proofs.YtbllcgibmgbnjaaGreatDoor.P
namespace Go.Proofs.YtbllcgibmgbnjaaGreatDoor.P
open Go.Proofs.YtbllcgibmgbnjaaGreatDoor.C (enc dec dec_enc enc1 plainB enc_cons enc_nil enc_len hexD)

/-- A first line that is read: the method, the path, the query. -/
structure Line (m tg p : Tx) (q : Hs) : Prop where
  f : R.firstOf (m ++ 32 :: tg) = some { method := m, path := p, query := q }
  n : (10 : UInt8) ∉ m ++ 32 :: tg
theorem line_plain {m p : Tx} (hm : R.isMethod m = true) : Line m (enc true (47 :: p)) (47 :: p) [] := ⟨first_plain hm, first_free hm⟩
theorem form_said {m tg p y : Tx} {q : Hs} (L : Line m tg p q) (hl : (saidT m tg [] y).length ≤ 2000) (hy : y.length ≤ 300) : formOf (saidT m tg [] y) = formT m p q y := by
  unfold formOf R.cnOf
  rw [parse_ok (req_said L.f L.n) hl hy]
  simp only [if_true]
  rw [canon_base]
theorem sig_said {secret m tg p y : Tx} {t : Nat} {q : Hs} (L : Line m tg p q) (hl : (saidT m tg [] y).length ≤ 2000) (hy : y.length ≤ 300) (h1 : secret ≠ []) (h2 : secret.length ≤ 40) (ht : t ≤ 1000000000000) : sigOf secret t (saidT m tg [] y) = markT secret t (formT m p q y) := by
  unfold sigOf
  rw [form_said L hl hy, sign_ok h1 h2 ht]
/-- What is read of who asks, and for what. -/
def askR (u m p : Tx) (q : Hs) (y : Tx) : Except Nat (Tx × AskP) := match askP m p q y with
  | none => .error 400
  | some a => .ok (u, a)
/-- Users, one of whom has that name and that secret. -/
structure Has (us : Us) (user secret : Tx) : Prop where
  f : us.find? (fun u => u.1 == user) = some (user, secret)
  o : ∀ u ∈ us, u.1 = user → u.2 = secret
  n1 : (32 : UInt8) ∉ user
  n2 : user.all R.showB = true
  n3 : user.length ≤ 12
  s1 : secret ≠ []
  s2 : secret.length ≤ 40
theorem find_sig {us : Us} {user secret t : Tx} {c : Claim} (h1 : us.find? (fun u => u.1 == user) = some (user, secret)) (h2 : ∀ u ∈ us, u.1 = user → u.2 = secret) (hc : c.user = user) (hs : sigOk c secret t = true) :
    us.find? (fun u => u.1 == c.user && sigOk c u.2 t) = some (user, secret) := by
  subst hc
  induction us with
  | nil => cases h1
  | cons u us ih =>
    by_cases e : u.1 = c.user
    · have e2 := h2 u (List.mem_cons_self ..) e
      have eu : u = (c.user, secret) := by rw [← e, ← e2]
      rw [List.find?_cons_of_pos (by rw [e2, hs]; simp [e]), eu]
    · rw [List.find?_cons_of_neg (by simp [e])] at h1
      rw [List.find?_cons_of_neg (by simp [e])]
      exact ih h1 (fun u hu => h2 u (List.mem_cons_of_mem _ hu))
theorem read_head {us : Us} {user secret m tg p y : Tx} {q : Hs} {clock t : Nat} (H : Has us user secret) (L : Line m tg p q) (hq : xIn q = []) (hm : m.length ≤ 10) (htg : tg.length ≤ 1000) (hy : y.length ≤ 300) (ht : t ≤ 1000000000000) :
    readP us clock (headT user secret t m tg y) = if clock + 900 < t ∨ t + 900 < clock then .error 403 else askR user m p q y := by
  have hn3 := H.n3
  have l0 : (saidT m tg [] y).length ≤ 2000 := by have := said_len m tg [] y hy; simp at this; omega
  have e1 := sig_said (t := t) L l0 hy H.s1 H.s2 ht
  have mk := mark_ok (secret := secret) (t := t) (form := formT m p q y)
  have l1 : (headT user secret t m tg y).length ≤ 2000 := by
    unfold headT
    rw [e1]
    have h1 := said_len m tg ([97, 117, 116, 104, 58, 32] ++ authT user t (markT secret t (formT m p q y)) ++ [10]) y hy
    have h2 : ([97, 117, 116, 104, 58, 32] ++ authT user t (markT secret t (formT m p q y)) ++ [10]).length ≤ 130 := by
      have := itoa_short ht
      have := mk.2.2.2
      simp [authT]; omega
    omega
  have e2 := req_auth L.f L.n (y := y) (v := authT user t (markT secret t (formT m p q y))) (auth_show H.n2 mk.1)
  have e3 : R.parseOf (headT user secret t m tg y) = (0, { method := m, path := p, query := q, headers := baseH y ++ [(tAuth, authT user t (markT secret t (formT m p q y)))], body := y }) := by
    refine parse_ok ?_ l1 hy
    unfold headT
    rw [e1]
    exact e2
  unfold readP
  rw [e3]
  simp only
  rw [if_neg (by decide), if_neg (by decide), signer_head hq H.n1 H.s1 H.s2 ht H.f H.o]
  by_cases hc : clock + 900 < t ∨ t + 900 < clock
  · rw [if_pos hc, if_pos hc]
  · rw [if_neg hc, if_neg hc]; rfl

/-! ### By query -/
theorem pair_of {n v c : Tx} (h1 : (61 : UInt8) ∉ n) (h2 : dec false n = some n) (h3 : dec false c = some v) (h4 : n ≠ []) : R.pairOf (n ++ 61 :: c) = some (n, v) := by
  unfold R.pairOf
  rw [cutc_hit c h1]
  simp only [h2, h3]
  rw [if_neg h4]
theorem query_step {l : Hs} {a n v : Tx} {r : List Tx} (h : R.pairOf a = some (n, v)) (hf : R.findP l n = none) : R.queryFrom l (a :: r) = R.queryFrom (l ++ [(n, v)]) r := by
  rw [R.queryFrom, h]
  simp only [R.addP]
  rw [if_pos hf]
/-- The pairs of a query, but the signature. -/
def quH (user : Tx) (t f : Nat) : Hs := [(xUser, user), (xTime, Lib.itoa (t : Int)), (xFor, Lib.itoa (f : Int)), (xList, tNames)]
def quX (user : Tx) (t f : Nat) : Tx := [120, 45, 117, 115, 101, 114, 61] ++ user ++ [38, 120, 45, 116, 105, 109, 101, 61] ++ Lib.itoa (t : Int) ++ [38, 120, 45, 102, 111, 114, 61] ++ Lib.itoa (f : Int) ++ [38, 120, 45, 108, 105, 115, 116, 61, 104, 111, 115, 116, 37, 51, 66, 108, 101, 110, 103, 116, 104]
theorem itoa_no {t : Nat} {c : UInt8} (h : ¬ (48 ≤ c.toNat ∧ c.toNat ≤ 57)) : c ∉ Lib.itoa (t : Int) := fun e => h (itoa_digit c e)
theorem dec_itoa (t : Nat) : dec false (Lib.itoa (t : Int)) = some (Lib.itoa (t : Int)) := dec_self (fun c hc => plain_digit false (itoa_digit c hc))
theorem quX_eq (user : Tx) (t f : Nat) (r : Tx) : quX user t f ++ r = (xUser ++ 61 :: user) ++ 38 :: ((xTime ++ 61 :: Lib.itoa (t : Int)) ++ 38 :: ((xFor ++ 61 :: Lib.itoa (f : Int)) ++ 38 :: (xList ++ 61 :: ([104, 111, 115, 116, 37, 51, 66, 108, 101, 110, 103, 116, 104] ++ r)))) := by
  simp [quX]
theorem app_free {c : UInt8} {a b : Tx} (h1 : c ∉ a) (h2 : c ∉ b) : c ∉ a ++ 61 :: b ∨ c = 61 := by
  by_cases hc : c = 61
  · exact .inr hc
  · left
    intro e
    rcases List.mem_append.1 e with e | e
    · exact h1 e
    · rcases List.mem_cons.1 e with e | e
      · exact hc e
      · exact h2 e
theorem no38 {a b : Tx} (h1 : (38 : UInt8) ∉ a) (h2 : (38 : UInt8) ∉ b) : (38 : UInt8) ∉ a ++ 61 :: b := (app_free h1 h2).resolve_right (by decide)
theorem plain_no {v : Tx} (h : ∀ c ∈ v, plainB (c.toNat : Int) false = true) {c : UInt8} (hc : plainB (c.toNat : Int) false = false) : c ∉ v := fun e => by
  have := h c e; rw [this] at hc; cases hc
theorem query_bare {user : Tx} {t f : Nat} (hu : ∀ c ∈ user, plainB (c.toNat : Int) false = true) : R.queryOf (quX user t f) = some (quH user t f) := by
  unfold R.queryOf
  have e := quX_eq user t f []
  rw [List.append_nil, List.append_nil] at e
  rw [e]
  rw [splitc_hit _ (no38 (by decide) (plain_no hu (by decide))), splitc_hit _ (no38 (by decide) (itoa_no (by decide))), splitc_hit _ (no38 (by decide) (itoa_no (by decide))), splitc_miss (by decide)]
  rw [query_step (pair_of (v := user) (by decide) (by decide) (dec_self hu) (by decide)) rfl]
  rw [query_step (pair_of (v := Lib.itoa (t : Int)) (by decide) (by decide) (dec_itoa t) (by decide)) (by simp [R.findP])]
  rw [query_step (pair_of (v := Lib.itoa (f : Int)) (by decide) (by decide) (dec_itoa f) (by decide)) (by simp [R.findP])]
  rw [query_step (pair_of (v := tNames) (by decide) (by decide) (by decide) (by decide)) (by simp [R.findP])]
  simp [R.queryFrom, quH]
theorem query_sig {user mark : Tx} {t f : Nat} (hu : ∀ c ∈ user, plainB (c.toNat : Int) false = true) (hm : ∀ c ∈ mark, plainB (c.toNat : Int) false = true) : R.queryOf (quX user t f ++ [38, 120, 45, 115, 105, 103, 61] ++ mark) = some (quH user t f ++ [(xSig, mark)]) := by
  unfold R.queryOf
  rw [List.append_assoc, quX_eq]
  rw [splitc_hit _ (no38 (by decide) (plain_no hu (by decide))), splitc_hit _ (no38 (by decide) (itoa_no (by decide))), splitc_hit _ (no38 (by decide) (itoa_no (by decide)))]
  rw [show (xList ++ 61 :: ([104, 111, 115, 116, 37, 51, 66, 108, 101, 110, 103, 116, 104] ++ ([38, 120, 45, 115, 105, 103, 61] ++ mark))) = (xList ++ 61 :: [104, 111, 115, 116, 37, 51, 66, 108, 101, 110, 103, 116, 104]) ++ 38 :: (xSig ++ 61 :: mark) by simp]
  rw [splitc_hit _ (by decide), splitc_miss (no38 (by decide) (plain_no hm (by decide)))]
  rw [query_step (pair_of (v := user) (by decide) (by decide) (dec_self hu) (by decide)) rfl]
  rw [query_step (pair_of (v := Lib.itoa (t : Int)) (by decide) (by decide) (dec_itoa t) (by decide)) (by simp [R.findP])]
  rw [query_step (pair_of (v := Lib.itoa (f : Int)) (by decide) (by decide) (dec_itoa f) (by decide)) (by simp [R.findP])]
  rw [query_step (pair_of (v := tNames) (by decide) (by decide) (by decide) (by decide)) (by simp [R.findP])]
  rw [query_step (pair_of (v := mark) (by decide) (by decide) (dec_self hm) (by decide)) (by simp [R.findP])]
  simp [R.queryFrom, quH]
theorem canonQ_sig (q : Hs) (mark : Tx) : R.canonQ (q ++ [(xSig, mark)]) = R.canonQ q := by
  unfold R.canonQ
  rw [List.filter_append]
  simp
theorem line_query {m p qt : Tx} {q : Hs} (hm : R.isMethod m = true) (hq : R.queryOf qt = some q) (hf : (10 : UInt8) ∉ qt) : Line m (enc true (47 :: p) ++ 63 :: qt) (47 :: p) q := by
  refine ⟨first_query hm hq, ?_⟩
  intro e
  have e' : (10 : UInt8) ∈ (m ++ 32 :: enc true (47 :: p)) ++ 63 :: qt := by simpa using e
  rcases List.mem_append.1 e' with e | e
  · exact first_free hm e
  · rcases List.mem_cons.1 e with e | e
    · exact absurd e (by decide)
    · exact hf e
theorem quX_free {user : Tx} {t f : Nat} (hu : ∀ c ∈ user, plainB (c.toNat : Int) false = true) : (10 : UInt8) ∉ quX user t f := by
  have h1 := plain_no hu (c := 10) (by decide)
  have h2 : (10 : UInt8) ∉ Lib.itoa (t : Int) := itoa_no (by decide)
  have h3 : (10 : UInt8) ∉ Lib.itoa (f : Int) := itoa_no (by decide)
  unfold quX
  simp [h1, h2, h3]
theorem claim_query {user mark y : Tx} {t f : Nat} (ht : t ≤ 1000000000000) (hf1 : 1 ≤ f) (hf2 : f ≤ 604800) : claimP (quH user t f ++ [(xSig, mark)]) (baseH y) = some ⟨user, tNames, mark, t, t + f - 1⟩ := by
  unfold claimP
  rw [find_noauth]
  simp only
  have hx : xIn (quH user t f ++ [(xSig, mark)]) = quH user t f ++ [(xSig, mark)] := by simp [quH, xP, List.isPrefixOf]
  rw [hx]
  unfold pairsP fnumP
  have f1 : R.findP (quH user t f ++ [(xSig, mark)]) xUser = some user := by simp [quH, R.findP]
  have f2 : R.findP (quH user t f ++ [(xSig, mark)]) xTime = some (Lib.itoa (t : Int)) := by simp [quH, R.findP]
  have f3 : R.findP (quH user t f ++ [(xSig, mark)]) xFor = some (Lib.itoa (f : Int)) := by simp [quH, R.findP]
  have f4 : R.findP (quH user t f ++ [(xSig, mark)]) xList = some tNames := by simp [quH, R.findP]
  have f5 : R.findP (quH user t f ++ [(xSig, mark)]) xSig = some mark := by simp [quH, R.findP]
  rw [f1, f2, f3, f4, f5]
  simp only [Option.getD]
  rw [num_itoa ht (Nat.zero_le _) ht, num_itoa (by omega) hf1 hf2]
  simp only
  rw [if_pos (by simp [quH])]
theorem read_query {us : Us} {user secret m p y : Tx} {clock t f : Nat} (H : Has us user secret) (hu : ∀ c ∈ user, plainB (c.toNat : Int) false = true) (hmm : R.isMethod m = true) (hm : m.length ≤ 10) (hp : (enc true (47 :: p)).length ≤ 1000) (hy : y.length ≤ 300) (ht : t ≤ 1000000000000) (hf1 : 1 ≤ f) (hf2 : f ≤ 604800) :
    readP us clock (queryT user secret t f m (enc true (47 :: p)) y) = if clock + 900 < t ∨ t + f - 1 < clock then .error 403 else askR user m (47 :: p) (quH user t f ++ [(xSig, markT secret t (formT m (47 :: p) (quH user t f) y))]) y := by
  have hn3 := H.n3
  have hqu : quT user t f (enc true (47 :: p)) = enc true (47 :: p) ++ 63 :: quX user t f := by simp [quT, quX]
  have i1 := itoa_short ht
  have i2 := itoa_short (u := f) (by omega)
  have lq : (quX user t f).length ≤ 90 := by simp [quX]; omega
  have L0 : Line m (enc true (47 :: p) ++ 63 :: quX user t f) (47 :: p) (quH user t f) := line_query hmm (query_bare hu) (quX_free hu)
  have l0 : (saidT m (enc true (47 :: p) ++ 63 :: quX user t f) [] y).length ≤ 2000 := by have := said_len m (enc true (47 :: p) ++ 63 :: quX user t f) [] y hy; simp only [List.length_append, List.length_cons, List.length_nil] at *; omega
  have e1 := sig_said (t := t) L0 l0 hy H.s1 H.s2 ht
  have mk := mark_ok (secret := secret) (t := t) (form := formT m (47 :: p) (quH user t f) y)
  have e0 : queryT user secret t f m (enc true (47 :: p)) y = saidT m (enc true (47 :: p) ++ 63 :: (quX user t f ++ [38, 120, 45, 115, 105, 103, 61] ++ markT secret t (formT m (47 :: p) (quH user t f) y))) [] y := by
    unfold queryT
    rw [hqu, e1]
    simp
  have L1 : Line m (enc true (47 :: p) ++ 63 :: (quX user t f ++ [38, 120, 45, 115, 105, 103, 61] ++ markT secret t (formT m (47 :: p) (quH user t f) y))) (47 :: p) (quH user t f ++ [(xSig, markT secret t (formT m (47 :: p) (quH user t f) y))]) := by
    refine line_query hmm (query_sig hu mk.2.2.1) ?_
    have h1 := quX_free (t := t) (f := f) hu
    have h2 := plain_no mk.2.2.1 (c := 10) (by decide)
    simp [h1, h2]
  have l1 : (queryT user secret t f m (enc true (47 :: p)) y).length ≤ 2000 := by
    rw [e0]
    have h1 := said_len m (enc true (47 :: p) ++ 63 :: (quX user t f ++ [38, 120, 45, 115, 105, 103, 61] ++ markT secret t (formT m (47 :: p) (quH user t f) y))) [] y hy
    have := mk.2.2.2
    simp only [List.length_append, List.length_cons, List.length_nil] at *
    omega
  have e3 : R.parseOf (queryT user secret t f m (enc true (47 :: p)) y) = (0, { method := m, path := 47 :: p, query := quH user t f ++ [(xSig, markT secret t (formT m (47 :: p) (quH user t f) y))], headers := baseH y, body := y }) := by
    refine parse_ok ?_ l1 hy
    rw [e0]
    exact req_said L1.f L1.n
  have hform : formT m (47 :: p) (quH user t f ++ [(xSig, markT secret t (formT m (47 :: p) (quH user t f) y))]) y = formT m (47 :: p) (quH user t f) y := by
    unfold formT; rw [canonQ_sig]
  have hsg : signerP m (47 :: p) (quH user t f ++ [(xSig, markT secret t (formT m (47 :: p) (quH user t f) y))]) (baseH y) y us clock = if clock + 900 < t ∨ t + f - 1 < clock then none else some user := by
    unfold signerP
    rw [claim_query ht hf1 hf2]
    simp only
    by_cases hc : clock + 900 < t ∨ t + f - 1 < clock
    · rw [if_pos hc, if_pos hc]
    · rw [if_neg hc, if_neg hc, canon_base, hform]
      simp only
      rw [find_sig H.f H.o (c := ⟨user, tNames, markT secret t (formT m (47 :: p) (quH user t f) y), t, t + f - 1⟩) rfl (by unfold sigOk; rw [sign_ok H.s1 H.s2 ht]; simp)]
      rfl
  unfold readP
  rw [e3]
  simp only
  rw [if_neg (by decide), if_neg (by decide), hsg]
  by_cases hc : clock + 900 < t ∨ t + f - 1 < clock
  · rw [if_pos hc, if_pos hc]
  · rw [if_neg hc, if_neg hc]; rfl
end Go.Proofs.YtbllcgibmgbnjaaGreatDoor.P
namespace Go.Proofs.YtbllcgibmgbnjaaGreatDoor.P
open Go.RowKit
open Go.ChangeMaps Go.MapKept

theorem strKeys : KeyB Tryz.prog 9 isStr := str_keys Tryz.underlying9
theorem place_check (w : World) (em : Bool) (a b : ByteArray) : (Instr.checkKey em 10000 289 (.agg #[.string a, .string b])).run Tryz.prog w = .ok () w := by
  kernel_rfl
theorem place_fields : (Tryz.prog.fieldsOf 289).toList.map (fun f => (f.name == "_", f.type, f.offset)) = [(false, 9, 0), (false, 9, 1)] := by kernel_rfl
theorem part_str (w : World) (xs : Array Value) (n : Nat) (v : Value) (h : xs[n]? = some v) : (part 9 xs n).run Tryz.prog w = .ok v w := by
  have ha : (isAgg 9).run Tryz.prog w = .ok false w := by kernel_rfl
  simp [part, ha, Result.andThen, h]
theorem place_equal (w : World) (a b c d : ByteArray) : (Op.equal 289 (.agg #[.string a, .string b]) (.agg #[.string c, .string d])).run Tryz.prog w = .ok (a == c && b == d) w := by
  show (Op.equalIn (9999 + 1) 289 _ _).run Tryz.prog w = _
  rw [run_equalIn_struct w 9999 289 _ _ (by kernel_rfl) (by kernel_rfl)]
  have hf := place_fields
  generalize (Tryz.prog.fieldsOf 289).toList = l at hf
  have hl : l.length = 2 := by simpa using congrArg List.length hf
  obtain ⟨f0, f1, rfl⟩ : ∃ f0 f1, l = [f0, f1] := by
    match l, hl with
    | [f0, f1], _ => exact ⟨f0, f1, rfl⟩
  · simp only [List.map_cons, List.map_nil, List.cons.injEq, Prod.mk.injEq, beq_eq_false_iff_ne] at hf
    obtain ⟨⟨n0, t0, o0⟩, ⟨n1, t1, o1⟩, _⟩ := hf
    have e1 := fun w => run_equalIn_string (P := Tryz.prog) w 9998 9 a c Tryz.underlying9
    have e2 := fun w => run_equalIn_string (P := Tryz.prog) w 9998 9 b d Tryz.underlying9
    simp [Op.eqFields, n0, n1, t0, t1, o0, o1, part_str _ #[Value.string a, Value.string b] 0 _ rfl, part_str _ #[Value.string c, Value.string d] 0 _ rfl, part_str _ #[Value.string a, Value.string b] 1 _ rfl, part_str _ #[Value.string c, Value.string d] 1 _ rfl, e1, e2, Result.andThen, beq_toListBytes]
    by_cases h1 : a.toList = c.toList <;> by_cases h2 : b.toList = d.toList <;> simp [h1, h2]
theorem place_stays (w : World) (a b : ByteArray) : (Instr.keyThatStays (.agg #[.string a, .string b]) (.agg #[.string a, .string b])).run Tryz.prog w = .ok (.agg #[.string a, .string b]) w := by
  have h : Instr.sameBits 10000 (.agg #[.string a, .string b]) (.agg #[.string a, .string b]) = true := by
    show (_ && _) = true
    simp [Instr.sameBits, (bytes_beq _ _).2]
  simp [Instr.keyThatStays, h]
theorem placeKeys : KeyB Tryz.prog 289 isTwo := two_keys (by kernel_rfl) place_check place_equal place_stays

/-! The operations on maps, for the walk. -/
theorem wpList_look {P : Program} (w : World) {ops : Array Oper} {rest : List Oper} {o : Oper} {a : Act} {Q : Exit → Act → World → Prop} (hg : o.guard = none) (m x : Operand) (t : TypeId) (c : Bool) (hop : o.op = Op.lookup t m x c)
    (k e : TypeId) (K : Value → Prop) (B : KeyB P k K) (ht : P.underlying t = some (.map k e)) (b : Nat) (f : Value → Option Value) (hm : a.eval m = .map (some b)) (h : MapIs K w b f) (z : Value) (hz : (zeroValue e).run P w = .ok z w)
    (key : Value) (hx : a.eval x = key) (hk : K key) (v : Value) (hv : lookV c z (f key) = v) (hK : wpList P ops Q rest (a.put o.dst v) w) : wpList P ops Q (o :: rest) a w := by
  refine wpList_plain hg fun K' hK' => ?_
  have hrun := h.look B ht c hz hk
  rw [hv] at hrun
  unfold Oper.wp
  simp [execOp, hop, hm, hx, hrun, Result.andThen]
  exact hK' _ _ hK
theorem wpList_put {P : Program} (w : World) {ops : Array Oper} {rest : List Oper} {o : Oper} {a : Act} {Q : Exit → Act → World → Prop} (hg : o.guard = none) (m x v : Operand) (t : TypeId) (hop : o.op = Op.mapUpdate t m x v)
    (k e : TypeId) (K : Value → Prop) (B : KeyB P k K) (ht : P.underlying t = some (.map k e)) (b : Nat) (f : Value → Option Value) (hm : a.eval m = .map (some b)) (h : MapIs K w b f)
    (key val : Value) (hx : a.eval x = key) (hv : a.eval v = val) (hk : K key)
    (hK : ∀ w' g, MapIs K w' b g → g key = some val → (∀ x, x ≠ key → g x = f x) → Kept (· = b) w w' → w'.heap.size = w.heap.size → wpList P ops Q rest (a.put o.dst undef) w') : wpList P ops Q (o :: rest) a w := by
  refine wpList_plain hg fun K' hK' => ?_
  obtain ⟨w', g, hrun, h1, ⟨h2, h3⟩, h4, h5⟩ := h.put B ht hk val
  unfold Oper.wp
  simp [execOp, hop, hm, hx, hv, hrun, Result.andThen]
  exact hK' _ _ (hK w' g h1 h2 h3 h4 h5)
theorem wpList_del {P : Program} (w : World) {ops : Array Oper} {rest : List Oper} {o : Oper} {a : Act} {Q : Exit → Act → World → Prop} (hg : o.guard = none) (m x : Operand) (t k : TypeId)
    (hop : o.op = .call { callee := .builtin .delete, args := #[m, x], argTypes := #[t, k] })
    (e : TypeId) (K : Value → Prop) (B : KeyB P k K) (ht : P.underlying t = some (.map k e)) (b : Nat) (f : Value → Option Value) (hm : a.eval m = .map (some b)) (h : MapIs K w b f)
    (key : Value) (hx : a.eval x = key) (hk : K key)
    (hK : ∀ w' g, MapIs K w' b g → g key = none → (∀ x, x ≠ key → g x = f x) → Kept (· = b) w w' → w'.heap.size = w.heap.size → wpList P ops Q rest (a.put o.dst (.tuple #[])) w') : wpList P ops Q (o :: rest) a w := by
  refine wpList_plain hg fun K' hK' => ?_
  obtain ⟨w', g, hrun, h1, ⟨h2, h3⟩, h4, h5⟩ := h.del (ty := o.type) B ht hk
  unfold Oper.wp
  simp [execOp, hop, resolve, invoke, builtin, hm, hx, hrun, Result.andThen]
  exact hK' _ _ (hK w' g h1 h2 h3 h4 h5)

/-! A value set, and the way back. -/
/-- What the way back answers: of this key the map holds again what it held. -/
def backPost (m : Nat) (key : Value) (old : Option Value) (K : Value → Prop) (g : Value → Option Value) (W : World) (e : Ending) (W' : World) : Prop :=
  e = .returned (.tuple #[]) ∧ (∃ f, MapIs K W' m f ∧ f key = old ∧ ∀ x, x ≠ key → f x = g x) ∧ Kept (· = m) W W'
def setPost (F m : Nat) (key val : Value) (K : Value → Prop) (f : Value → Option Value) (w : World) (e : Ending) (w' : World) : Prop :=
  ∃ caps, e = .returned (.func (.func F) #[] caps) ∧ (∃ g, MapIs K w' m g ∧ g key = some val ∧ ∀ x, x ≠ key → g x = f x) ∧ Kept (· = m) w w' ∧
    ∀ W g, Kept (fun k => k < w.heap.size) w' W → MapIs K W m g → Calls Tryz.prog F caps W (backPost m key (f key) K g W)
set_option maxHeartbeats 1000000 in
theorem setB_back (m a b c d : Nat) (n : List UInt8) (old : Option (Value × Value × Value)) (z0 z1 z2 : Value) (W : World) (g : Value → Option Value) (h : MapIs isStr W m g)
    (hz : ∀ q, old = some q → z0 = q.1 ∧ z1 = q.2.1 ∧ z2 = q.2.2)
    (ha : W.cell? ⟨a, 0, none⟩ = some (.bool old.isSome)) (hb0 : W.cell? ⟨b, 0, none⟩ = some z0) (hb1 : W.cell? ⟨b, 1, none⟩ = some z1) (hb2 : W.cell? ⟨b, 2, none⟩ = some z2) (hc : W.cell? ⟨c, 0, none⟩ = some (.map (some m))) (hd : W.cell? ⟨d, 0, none⟩ = some (str n)) :
    Calls Tryz.prog 306 #[.pointer (some ⟨a, 0, none⟩), .pointer (some ⟨b, 0, none⟩), .pointer (some ⟨c, 0, none⟩), .pointer (some ⟨d, 0, none⟩)] W (backPost m (str n) (old.map fun q => .agg #[q.1, q.2.1, q.2.2]) isStr g W) := by
  cases old with
  | none =>
    clear hz
    go_enter Tryz.func306, Tryz.ntmps306
    go_wp2_with (at_delete; refine wpList_del _ rfl _ _ _ _ rfl 162 isStr strKeys Tryz.underlying122 m g rfl h _ rfl ⟨_, rfl⟩ ?_; intro w' g' h1 h2 h3 h4 h5)
    go_end0
    exact ⟨rfl, ⟨g', h1, h2, h3⟩, h4⟩
  | some q =>
    obtain ⟨rfl, rfl, rfl⟩ := hz q rfl
    go_enter Tryz.func306, Tryz.ntmps306
    go_wp2_with (at_mapUpdate; refine wpList_put _ rfl _ _ _ _ rfl 9 162 isStr strKeys Tryz.underlying122 m g rfl h _ _ rfl rfl ⟨_, rfl⟩ ?_; intro w' g' h1 h2 h3 h4 h5)
    go_end0
    exact ⟨rfl, ⟨g', h1, h2, h3⟩, h4⟩
theorem zeroB (w : World) : (zeroValue 162).run Tryz.prog w = .ok (.agg #[.string ⟨#[]⟩, .string ⟨#[]⟩, .slice none 0 0]) w := by kernel_rfl
abbrev Sl := Option Addr × Nat × Nat
abbrev Sl.v (s : Sl) : Value := .slice s.1 s.2.1 s.2.2
/-- The blocks that a call has made are there, whatever was done to those that were there. -/
theorem kept_new {w w' W : World} (k : Kept (fun k => k < w.heap.size) w' W) {b o : Nat} {v : Value} (h : w'.cell? ⟨b, o, none⟩ = some v) (hb : w.heap.size ≤ b) : W.cell? ⟨b, o, none⟩ = some v :=
  k.cell h (fun e => by simp at e; omega)
set_option maxHeartbeats 2000000 in
set_option maxRecDepth 20000 in
theorem setB_any (m : Nat) (n : List UInt8) (o p : List UInt8) (sl : Sl) (f : Value → Option Value) (old : Option (List UInt8 × List UInt8 × Sl)) (w : World) (h : MapIs isStr w m f) (ho : f (str n) = old.map fun q => .agg #[str q.1, str q.2.1, q.2.2.v]) :
    Calls Tryz.prog 304 #[.map (some m), str n, .agg #[str o, str p, sl.v]] w (setPost 306 m (str n) (.agg #[str o, str p, sl.v]) isStr f w) := by
  obtain ⟨sa, sn, sc⟩ := sl
  have hm := h.lt
  have HO : Hid (f (str n) = old.map fun q => .agg #[str q.1, str q.2.1, q.2.2.v]) := ho
  have h0 : MapIs isStr (((w.alloc (.cells #[.map (some m)] 122)).alloc (.cells #[str n] 9)).alloc (.cells #[str o, str p, .slice sa sn sc] 162)) m f := ((h.alloc _).alloc _).alloc _
  clear ho h
  cases old with
  | none =>
    have HL : Hid (lookV true (.agg #[.string ⟨#[]⟩, .string ⟨#[]⟩, .slice none 0 0]) (f (str n)) = .tuple #[.agg #[.string ⟨#[]⟩, .string ⟨#[]⟩, .slice none 0 0], .bool false]) := by show _ = _; rw [HO.out]; rfl
    go_enter Tryz.func304, Tryz.ntmps304
    go_wp2_with (first | (at_lookup; refine wpList_look _ rfl _ _ _ _ rfl 9 162 isStr strKeys Tryz.underlying122 m f rfl h0 _ (zeroB _) _ rfl ⟨_, rfl⟩ _ HL.out ?_) | (at_mapUpdate; refine wpList_put _ rfl _ _ _ _ rfl 9 162 isStr strKeys Tryz.underlying122 m f rfl ((h0.alloc _).alloc _) _ _ rfl rfl ⟨_, rfl⟩ ?_; intro w' g' h1 h2 h3 h4 h5))
    go_ret
    refine ⟨_, rfl, ⟨g', h1, h2, h3⟩, ?_, fun W g k hg => ?_⟩
    · exact (((((Kept.refl _ _).alloc _).alloc _).alloc _).alloc _).alloc _ |>.trans h4 (fun _ _ e => e)
    · rw [HO.out]
      refine setB_back m _ _ _ _ n none (str []) (str []) (.slice none 0 0) W g hg (fun q e => by cases e) (kept_new k (h4.cell ?_ (by simp; omega)) (by omega)) (kept_new k (h4.cell ?_ (by simp; omega)) (by omega)) (kept_new k (h4.cell ?_ (by simp; omega)) (by omega)) (kept_new k (h4.cell ?_ (by simp; omega)) (by omega)) (kept_new k (h4.cell ?_ (by simp; omega)) (by omega)) (kept_new k (h4.cell ?_ (by simp; omega)) (by omega))
      all_goals simp [go_sem]
  | some q =>
    obtain ⟨qo, qp, qa, qn, qc⟩ := q
    have HL : Hid (lookV true (.agg #[.string ⟨#[]⟩, .string ⟨#[]⟩, .slice none 0 0]) (f (str n)) = .tuple #[.agg #[str qo, str qp, .slice qa qn qc], .bool true]) := by show _ = _; rw [HO.out]; rfl
    go_enter Tryz.func304, Tryz.ntmps304
    go_wp2_with (first | (at_lookup; refine wpList_look _ rfl _ _ _ _ rfl 9 162 isStr strKeys Tryz.underlying122 m f rfl h0 _ (zeroB _) _ rfl ⟨_, rfl⟩ _ HL.out ?_) | (at_mapUpdate; refine wpList_put _ rfl _ _ _ _ rfl 9 162 isStr strKeys Tryz.underlying122 m f rfl ((h0.alloc _).alloc _) _ _ rfl rfl ⟨_, rfl⟩ ?_; intro w' g' h1 h2 h3 h4 h5))
    go_ret
    refine ⟨_, rfl, ⟨g', h1, h2, h3⟩, ?_, fun W g k hg => ?_⟩
    · exact (((((Kept.refl _ _).alloc _).alloc _).alloc _).alloc _).alloc _ |>.trans h4 (fun _ _ e => e)
    · rw [HO.out]
      refine setB_back m _ _ _ _ n (some (str qo, str qp, .slice qa qn qc)) (str qo) (str qp) (.slice qa qn qc) W g hg (fun q e => by cases e; exact ⟨rfl, rfl, rfl⟩) (kept_new k (h4.cell ?_ (by simp; omega)) (by omega)) (kept_new k (h4.cell ?_ (by simp; omega)) (by omega)) (kept_new k (h4.cell ?_ (by simp; omega)) (by omega)) (kept_new k (h4.cell ?_ (by simp; omega)) (by omega)) (kept_new k (h4.cell ?_ (by simp; omega)) (by omega)) (kept_new k (h4.cell ?_ (by simp; omega)) (by omega))
      all_goals simp [go_sem]

theorem zeroV (w : World) : (zeroValue 290).run Tryz.prog w = .ok (.slice none 0 0) w := by kernel_rfl
set_option maxHeartbeats 1000000 in
theorem setV_back (m a b c d : Nat) (x y : List UInt8) (old : Option Sl) (z : Value) (W : World) (g : Value → Option Value) (h : MapIs isTwo W m g)
    (hz : ∀ q, old = some q → z = q.v)
    (ha : W.cell? ⟨a, 0, none⟩ = some (.bool old.isSome)) (hb0 : W.cell? ⟨b, 0, none⟩ = some z) (hc : W.cell? ⟨c, 0, none⟩ = some (.map (some m))) (hd : W.cell? ⟨d, 0, none⟩ = some (str x)) (hd1 : W.cell? ⟨d, 1, none⟩ = some (str y)) :
    Calls Tryz.prog 356 #[.pointer (some ⟨a, 0, none⟩), .pointer (some ⟨b, 0, none⟩), .pointer (some ⟨c, 0, none⟩), .pointer (some ⟨d, 0, none⟩)] W (backPost m (.agg #[str x, str y]) (old.map Sl.v) isTwo g W) := by
  cases old with
  | none =>
    clear hz
    go_enter Tryz.func356, Tryz.ntmps356
    go_wp2_with (at_delete; refine wpList_del _ rfl _ _ _ _ rfl 290 isTwo placeKeys Tryz.underlying123 m g rfl h _ rfl ⟨_, _, rfl⟩ ?_; intro w' g' h1 h2 h3 h4 h5)
    go_end0
    exact ⟨rfl, ⟨g', h1, h2, h3⟩, h4⟩
  | some q =>
    obtain rfl := hz q rfl
    go_enter Tryz.func356, Tryz.ntmps356
    go_wp2_with (at_mapUpdate; refine wpList_put _ rfl _ _ _ _ rfl 289 290 isTwo placeKeys Tryz.underlying123 m g rfl h _ _ rfl rfl ⟨_, _, rfl⟩ ?_; intro w' g' h1 h2 h3 h4 h5)
    go_end0
    exact ⟨rfl, ⟨g', h1, h2, h3⟩, h4⟩
set_option maxHeartbeats 2000000 in
set_option maxRecDepth 20000 in
theorem setV_any (m : Nat) (x y : List UInt8) (sl : Sl) (f : Value → Option Value) (old : Option Sl) (w : World) (h : MapIs isTwo w m f) (ho : f (.agg #[str x, str y]) = old.map Sl.v) :
    Calls Tryz.prog 354 #[.map (some m), .agg #[str x, str y], sl.v] w (setPost 356 m (.agg #[str x, str y]) sl.v isTwo f w) := by
  obtain ⟨sa, sn, sc⟩ := sl
  have hm := h.lt
  have HO : Hid (f (.agg #[str x, str y]) = old.map Sl.v) := ho
  have h0 : MapIs isTwo ((w.alloc (.cells #[.map (some m)] 123)).alloc (.cells #[str x, str y] 289)) m f := (h.alloc _).alloc _
  clear ho h
  cases old with
  | none =>
    have HL : Hid (lookV true (.slice none 0 0) (f (.agg #[str x, str y])) = .tuple #[.slice none 0 0, .bool false]) := by show _ = _; rw [HO.out]; rfl
    go_enter Tryz.func354, Tryz.ntmps354
    go_wp2_with (first | (at_lookup; refine wpList_look _ rfl _ _ _ _ rfl 289 290 isTwo placeKeys Tryz.underlying123 m f rfl h0 _ (zeroV _) _ rfl ⟨_, _, rfl⟩ _ HL.out ?_) | (at_mapUpdate; refine wpList_put _ rfl _ _ _ _ rfl 289 290 isTwo placeKeys Tryz.underlying123 m f rfl ((h0.alloc _).alloc _) _ _ rfl rfl ⟨_, _, rfl⟩ ?_; intro w' g' h1 h2 h3 h4 h5))
    go_ret
    refine ⟨_, rfl, ⟨g', h1, h2, h3⟩, ?_, fun W g k hg => ?_⟩
    · exact ((((Kept.refl _ _).alloc _).alloc _).alloc _).alloc _ |>.trans h4 (fun _ _ e => e)
    · rw [HO.out]
      refine setV_back m _ _ _ _ x y none (.slice none 0 0) W g hg (fun q e => by cases e) (kept_new k (h4.cell ?_ (by simp; omega)) (by omega)) (kept_new k (h4.cell ?_ (by simp; omega)) (by omega)) (kept_new k (h4.cell ?_ (by simp; omega)) (by omega)) (kept_new k (h4.cell ?_ (by simp; omega)) (by omega)) (kept_new k (h4.cell ?_ (by simp; omega)) (by omega))
      all_goals simp [go_sem]
  | some q =>
    obtain ⟨qa, qn, qc⟩ := q
    have HL : Hid (lookV true (.slice none 0 0) (f (.agg #[str x, str y])) = .tuple #[.slice qa qn qc, .bool true]) := by show _ = _; rw [HO.out]; rfl
    go_enter Tryz.func354, Tryz.ntmps354
    go_wp2_with (first | (at_lookup; refine wpList_look _ rfl _ _ _ _ rfl 289 290 isTwo placeKeys Tryz.underlying123 m f rfl h0 _ (zeroV _) _ rfl ⟨_, _, rfl⟩ _ HL.out ?_) | (at_mapUpdate; refine wpList_put _ rfl _ _ _ _ rfl 289 290 isTwo placeKeys Tryz.underlying123 m f rfl ((h0.alloc _).alloc _) _ _ rfl rfl ⟨_, _, rfl⟩ ?_; intro w' g' h1 h2 h3 h4 h5))
    go_ret
    refine ⟨_, rfl, ⟨g', h1, h2, h3⟩, ?_, fun W g k hg => ?_⟩
    · exact ((((Kept.refl _ _).alloc _).alloc _).alloc _).alloc _ |>.trans h4 (fun _ _ e => e)
    · rw [HO.out]
      refine setV_back m _ _ _ _ x y (some (qa, qn, qc)) (.slice qa qn qc) W g hg (fun q e => by cases e; rfl) (kept_new k (h4.cell ?_ (by simp; omega)) (by omega)) (kept_new k (h4.cell ?_ (by simp; omega)) (by omega)) (kept_new k (h4.cell ?_ (by simp; omega)) (by omega)) (kept_new k (h4.cell ?_ (by simp; omega)) (by omega)) (kept_new k (h4.cell ?_ (by simp; omega)) (by omega))
      all_goals simp [go_sem]
end Go.Proofs.YtbllcgibmgbnjaaGreatDoor.P
