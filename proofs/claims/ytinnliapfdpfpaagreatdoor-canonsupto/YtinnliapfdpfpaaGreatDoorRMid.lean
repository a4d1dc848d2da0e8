/-
  LINES OF A REQUEST: the reader's lines, header lines.
  THE HEADERS OF A REQUEST, as the program reads them.
  THE QUERY OF A REQUEST, as the program reads it.
-/
import Derived.Test.YtinnliapfdpfpaaGreatDoorRBase
import Derived.WalkSmall
namespace Go.Proofs.YtinnliapfdpfpaaGreatDoor.R
open Go.RowKit
open Go.Proofs.YtinnliapfdpfpaaGreatDoor.C (ret_bool ret_int dec grown_trans grown_set grown_then grown_below)

/-- Past the package-level variables that are read. -/
def gTop : Nat := max 5 3 + 1
/-- What holds of the library's variables. -/
structure Env (w : World) : Prop where
  ml : ∃ m, w.cell? ⟨5, 0, none⟩ = some (.int .i64 m)
  tab : Lib.TabIs Tryz.prog w "internal/strconv.uint64pow10" .u64 Lib.pow10Tab
  sz : gTop ≤ w.heap.size
theorem named_pow : Tryz.prog.globalNamed "internal/strconv.uint64pow10" = some 3 := by kernel_rfl
theorem Env.below {B : Nat} {w w' : World} (h : Env w) (k : Below B w w') (hB : gTop ≤ B) : Env w' := by
  obtain ⟨⟨m, hm⟩, ht, hs⟩ := h
  have := k.size
  exact ⟨⟨m, (k.cell (p := ⟨5, 0, none⟩) (show 5 < B by unfold gTop at hB; omega)).trans hm⟩, var?_below k named_pow (show 3 < B by unfold gTop at hB; omega) ht, by omega⟩
theorem Env.grown {b : Nat} {w w' : World} (h : Env w) (k : w.grownBy w' (some b)) (hb : gTop ≤ b) : Env w' :=
  h.below (B := gTop) ⟨k.os, k.tape, k.output, k.size, fun j hj => k.block j (Nat.lt_of_lt_of_le hj h.sz) (by simp; omega)⟩ (Nat.le_refl _)

theorem cut_r (l sep : Bs) (w : World) (E : Env w) (hl : l.length ≤ 10000000) :
    Calls Tryz.prog 100 #[str l, str sep] w fun e w' => e = .returned (.tuple #[str (Lib.cut l sep).1, str (Lib.cut l sep).2.1, .bool (Lib.cut l sep).2.2]) ∧ ∃ n, w' = w.drewN n := by
  obtain ⟨⟨m, hm⟩, _, _⟩ := E
  exact Tryz.strings_Cut ⟨l.toArray⟩ ⟨sep.toArray⟩ m w (by simp [ByteArray.size]; omega) hm

/-- The reader's rest. -/
def rdr (w : World) (b : Nat) (l : Bs) : Prop := w.cell? ⟨b, 0, none⟩ = some (str l) ∧ w.frozen? ⟨b, 0, none⟩ = false
theorem rdr.below {b B : Nat} {w w' : World} {l : Bs} (h : rdr w b l) (hb : b < B) (k : Below B w w') : rdr w' b l :=
  ⟨(k.cell (p := ⟨b, 0, none⟩) hb).trans h.1, (k.frozen (p := ⟨b, 0, none⟩) hb).trans h.2⟩
theorem rdr.lt {b : Nat} {w : World} {l : Bs} (h : rdr w b l) : b < w.heap.size := World.block_lt_of_cell? w ⟨b, 0, none⟩ h.1
theorem rdr.set {b : Nat} {w : World} {l : Bs} (h : rdr w b l) (r : Bs) : rdr (w.setCell ⟨b, 0, none⟩ (str r)) b r := by
  obtain ⟨h0, h1⟩ := h
  exact ⟨by simp [go_sem, h0], by simp [go_sem, h1]⟩
theorem rdr.drewN {b : Nat} {w : World} {l : Bs} (h : rdr w b l) (n : Nat) : rdr (w.drewN n) b l := h
theorem grown_drewN {a w : World} {r : Option Nat} (h : a.grownBy w r) (n : Nat) : a.grownBy (w.drewN n) r := ⟨h.os, h.tape, h.output, h.size, h.block⟩

theorem grown_refl (w : World) (r : Option Nat) : w.grownBy w r := World.grownBy.refl w r
set_option maxHeartbeats 400000 in
theorem readLine_ok (b : Nat) (l : Bs) (w : World) (h : rdr w b l) (E : Env w) (hl : l.length ≤ 100000) (hf : (Lib.cut l [10]).2.2 = true) :
    Calls Tryz.prog 97 #[.pointer (some ⟨b, 0, none⟩)] w fun e w' => e = .returned (str (Lib.cut l [10]).1) ∧ rdr w' b (Lib.cut l [10]).2.1 ∧ w.grownBy w' (some b) := by
  have H := h
  obtain ⟨h0, h1⟩ := h
  have HF : Hid ((Lib.cut l [10]).2.2 = true) := hf
  clear hf
  have C : Hid (_) := cut_r l [10]
  go_enter Tryz.func97, Tryz.ntmps97
  go_wp2_with fail
  refine (C.out w E (by omega)).mono ?_
  rintro e w1 ⟨rfl, n, rfl⟩
  rw [HF.out]
  go_wp2_with (go_at_call 135; refine (need_ok _).mono ?_; rintro e w' ⟨rfl, rfl⟩)
  go_ret
  exact ⟨rfl, (H.drewN n).set _, grown_trans (grown_drewN (grown_refl w _) n) (grown_set _ b 0 _)⟩
set_option maxHeartbeats 400000 in
theorem readLine_no (b : Nat) (l : Bs) (w : World) (h : rdr w b l) (E : Env w) (hl : l.length ≤ 100000) (hf : (Lib.cut l [10]).2.2 = false) :
    Calls Tryz.prog 97 #[.pointer (some ⟨b, 0, none⟩)] w fun e w' => e = .panicked noR ∧ w.grownBy w' (some b) := by
  obtain ⟨h0, h1⟩ := h
  have HF : Hid ((Lib.cut l [10]).2.2 = false) := hf
  clear hf
  have C : Hid (_) := cut_r l [10]
  go_enter Tryz.func97, Tryz.ntmps97
  go_wp2_with fail
  refine (C.out w E (by omega)).mono ?_
  rintro e w1 ⟨rfl, n, rfl⟩
  rw [HF.out]
  go_wp2_with (go_at_call 135; refine (need_no _).mono ?_; rintro e w' ⟨rfl, rfl⟩)
  exact ⟨rfl, rfl, grown_drewN (grown_refl w _) n⟩

/-- What a header line answers. -/
def hdEnd : Option (Bs × Bs) → Ending
  | some p => .returned (.agg #[str p.1, str p.2])
  | none => .panicked noR
theorem header_no1 {l : Bs} (h : (Lib.cut l [58, 32]).2.2 = false) : headerOf l = none := by unfold headerOf; rw [if_neg (by simp [h])]
theorem header_no2 {l : Bs} (h : hname (Lib.cut l [58, 32]).1 = false) : headerOf l = none := by unfold headerOf; rw [if_neg (by simp [h])]
theorem header_no3 {l : Bs} (h : (Lib.cut l [58, 32]).2.1.all showB = false) : headerOf l = none := by unfold headerOf; rw [if_neg (by simp [h])]
theorem header_ok {l : Bs} (h1 : (Lib.cut l [58, 32]).2.2 = true) (h2 : hname (Lib.cut l [58, 32]).1 = true) (h3 : (Lib.cut l [58, 32]).2.1.all showB = true) :
    headerOf l = some ((Lib.cut l [58, 32]).1, (Lib.cut l [58, 32]).2.1) := by unfold headerOf; rw [if_pos ⟨h1, h2, h3⟩]
theorem below_of_drewN {w : World} (n : Nat) : Below w.heap.size w (w.drewN n) := below_drewN (Below.refl _ w) n
set_option maxHeartbeats 400000 in
theorem readHeader_any (l : Bs) (w : World) (E : Env w) (hl : l.length ≤ 100000) :
    Calls Tryz.prog 141 #[str l] w fun e w' => e = hdEnd (headerOf l) ∧ Below w.heap.size w w' := by
  have C : Hid (_) := cut_r l [58, 32]
  obtain ⟨n1, n2⟩ := cut_le l [58, 32]
  have N1 := header_ok (l := l)
  have N2 := header_no1 (l := l)
  have N3 := header_no2 (l := l)
  have N4 := header_no3 (l := l)
  generalize Lib.cut l [58, 32] = c at *
  obtain ⟨a, v, f⟩ := c
  simp only at n1 n2 N1 N2 N3 N4
  have E1 := E.below ((Below.refl w.heap.size w).alloc (Nat.le_refl _) (.cells #[str [], str []] 117)) E.sz
  have A1 : Hid (_) := isHeaderName_any a
  have A2 : Hid (_) := isHeaderValue_any v
  have HH : Hid (headerOf l = headerOf l) := rfl
  generalize headerOf l = r at *
  clear HH
  go_enter Tryz.func141, Tryz.ntmps141
  cases f with
  | false =>
    cases (N2 rfl)
    clear N1 N2 N3 N4
    go_wp2_with fail
    refine (C.out _ E1 (by omega)).mono ?_
    rintro e w1 ⟨rfl, n, rfl⟩
    go_wp2_with (go_at_call 135; refine (need_no _).mono ?_; rintro e w' ⟨rfl, rfl⟩)
    exact ⟨rfl, rfl, below_drewN ((Below.refl _ w).alloc (Nat.le_refl _) _) n⟩
  | true =>
    cases h2 : hname a with
    | false =>
      cases (N3 h2)
      clear N1 N2 N3 N4
      go_wp2_with fail
      refine (C.out _ E1 (by omega)).mono ?_
      rintro e w1 ⟨rfl, n, rfl⟩
      go_wp2_with (first | (go_at_call 135; refine (need_no _).mono ?_; rintro e w' ⟨rfl, rfl⟩) | (go_at_call 196; refine (A1.out _ (by omega)).mono ?_; rintro e w' ⟨rfl, rfl⟩; rw [h2]))
      exact ⟨rfl, rfl, below_drewN ((Below.refl _ w).alloc (Nat.le_refl _) _) n⟩
    | true =>
      cases h3 : v.all showB with
      | false =>
        cases (N4 h3)
        clear N1 N2 N3 N4
        go_wp2_with fail
        refine (C.out _ E1 (by omega)).mono ?_
        rintro e w1 ⟨rfl, n, rfl⟩
        go_wp2_with (first | (go_at_call 135; refine (need_no _).mono ?_; rintro e w' ⟨rfl, rfl⟩) | (go_at_call 196; refine (A1.out _ (by omega)).mono ?_; rintro e w' ⟨rfl, rfl⟩; rw [h2]) | (go_at_call 197; refine (A2.out _ (by omega)).mono ?_; rintro e w' ⟨rfl, rfl⟩; rw [h3]))
        exact ⟨rfl, rfl, below_drewN ((Below.refl _ w).alloc (Nat.le_refl _) _) n⟩
      | true =>
        cases (N1 rfl h2 h3)
        clear N1 N2 N3 N4
        go_wp2_with fail
        refine (C.out _ E1 (by omega)).mono ?_
        rintro e w1 ⟨rfl, n, rfl⟩
        go_wp2_with (first | (go_at_call 135; refine (need_ok _).mono ?_; rintro e w' ⟨rfl, rfl⟩) | (go_at_call 196; refine (A1.out _ (by omega)).mono ?_; rintro e w' ⟨rfl, rfl⟩; rw [h2]) | (go_at_call 197; refine (A2.out _ (by omega)).mono ?_; rintro e w' ⟨rfl, rfl⟩; rw [h3]))
        refine bodyPost_ret (v := .agg #[str a, str v]) ?_ rfl ⟨rfl, ((below_drewN ((Below.refl _ w).alloc (Nat.le_refl _) _) n).setCell (p := ⟨w.heap.size, 0, none⟩) (Nat.le_refl _) _).setCell (p := ⟨w.heap.size, 1, none⟩) (Nat.le_refl _) _⟩
        simp [results, Tryz.results141, go_sem]
end Go.Proofs.YtinnliapfdpfpaaGreatDoor.R
namespace Go.Proofs.YtinnliapfdpfpaaGreatDoor.R
open Go.RowKit
open Go.Proofs.YtinnliapfdpfpaaGreatDoor.C (ret_bool ret_int dec grown_trans grown_set grown_then grown_below)

/-- Header lines from a line on that has been read. -/
def hstep (k : Nat) (hs : Ps) (line rest : Bs) : Option (Ps × Bs) :=
  if line = [] then some (hs, rest) else match k with
    | 0 => none
    | k + 1 => match headerOf line with
      | none => none
      | some p => match addP hs p with
        | none => none
        | some l' => headersFrom k l' rest
theorem headers_no {k : Nat} {hs : Ps} {l : Bs} (h : (Lib.cut l [10]).2.2 = false) : headersFrom k hs l = none := by
  unfold headersFrom; rw [if_pos h]
theorem headers_go {k : Nat} {hs : Ps} {l : Bs} (h : (Lib.cut l [10]).2.2 = true) : headersFrom k hs l = hstep k hs (Lib.cut l [10]).1 (Lib.cut l [10]).2.1 := by
  conv => lhs; unfold headersFrom
  rw [if_neg (by simp [h])]; rfl
theorem hstep_end (k : Nat) (hs : Ps) (rest : Bs) : hstep k hs [] rest = some (hs, rest) := by unfold hstep; simp
theorem hstep_full {hs : Ps} {line rest : Bs} (h : line ≠ []) : hstep 0 hs line rest = none := by unfold hstep; rw [if_neg h]
theorem hstep_bad {k : Nat} {hs : Ps} {line rest : Bs} (h : line ≠ []) (hh : headerOf line = none) : hstep k hs line rest = none := by
  unfold hstep; rw [if_neg h]; cases k with
  | zero => rfl
  | succ k => simp only [hh]
theorem hstep_two {k : Nat} {hs : Ps} {line rest : Bs} {p : Bs × Bs} (h : line ≠ []) (hh : headerOf line = some p) (ha : ¬ findP hs p.1 = none) : hstep k hs line rest = none := by
  unfold hstep; rw [if_neg h]; cases k with
  | zero => rfl
  | succ k => simp only [hh, addP, if_neg ha]
theorem hstep_next {k : Nat} {hs : Ps} {line rest : Bs} {p : Bs × Bs} (h : line ≠ []) (hh : headerOf line = some p) (ha : findP hs p.1 = none) : hstep (k + 1) hs line rest = headersFrom k (hs ++ [p]) rest := by
  unfold hstep; rw [if_neg h]; simp only [hh, addP, if_pos ha]

/-- How many a row has. -/
def slLen : Value → Nat
  | .slice _ n _ => n
  | _ => 0
theorem prow.len {w : World} {B : Nat} {v : Value} {l : Ps} (h : prow w B v l) : slLen v = l.length ∧ ∃ a cap, v = .slice a l.length cap := by
  obtain ⟨_, ⟨rfl, hn⟩ | ⟨g, cap, cur, rfl, _⟩⟩ := h
  · exact ⟨hn.symm, none, 0, by rw [hn]⟩
  · exact ⟨rfl, _, cap, rfl⟩
theorem prow.grown {w w' : World} {B b : Nat} {v : Value} {l : Ps} (h : prow w B v l) (k : w.grownBy w' (some b)) (hb : b < B) : prow w' B v l :=
  World.ownsRow.kept h k (by
    cases hv : v.ownBlock with
    | none => exact Or.inl rfl
    | some k => right; have := h.lt k hv; intro e; simp at e; omega)
theorem need_yes (w : World) : Calls Tryz.prog 135 #[.bool true] w fun e w' => e = .returned (.tuple #[]) ∧ w = w' := (need_ok w).mono fun _ _ ⟨h1, h2⟩ => ⟨h1, h2.symm⟩
theorem need_not (w : World) : Calls Tryz.prog 135 #[.bool false] w fun e w' => e = .panicked noR ∧ w = w' := (need_no w).mono fun _ _ ⟨h1, h2⟩ => ⟨h1, h2.symm⟩
/-- How the reading of the headers ends. -/
def headPost (w : World) (b : Nat) (o : Option (Ps × Bs)) (e : Ending) (w' : World) : Prop :=
  w.grownBy w' (some b) ∧ match o with
    | none => e = .panicked noR
    | some x => ∃ v, e = .returned v ∧ prow w' w.heap.size v x.1 ∧ rdr w' b x.2

set_option maxHeartbeats 1000000 in
theorem readHeaders_any (b : Nat) (l : Bs) (w : World) (h : rdr w b l) (E : Env w) (hb0 : gTop ≤ b) (hl : l.length ≤ 100000) :
    Calls Tryz.prog 98 #[.pointer (some ⟨b, 0, none⟩)] w fun e w' => headPost w b (headersFrom 12 [] l) e w' := by
  have hbw := h.lt
  obtain ⟨n1, n2⟩ := cut_le l [10]
  cases hf : (Lib.cut l [10]).2.2 with
  | false =>
    rw [headers_no hf]
    go_enter Tryz.func98, Tryz.ntmps98
    go_wp2_with fail
    refine (readLine_no b l w h E hl hf).mono ?_
    rintro e w1 ⟨rfl, hg⟩
    clear h E
    go_wp2
    exact ⟨rfl, hg, rfl⟩
  | true =>
    rw [headers_go hf]
    have C : Hid (_) := readLine_ok b l
    generalize (Lib.cut l [10]).1 = line0 at *
    generalize (Lib.cut l [10]).2.1 = rest0 at *
    go_enter Tryz.func98, Tryz.ntmps98
    go_wp2_with fail
    refine (C.out w h E hl hf).mono ?_
    rintro e w1 ⟨rfl, hr, hg⟩
    clear C h hf
    go_wp2
    go_loopw [3, 4] (fun v x wr => ∃ (k : Nat) (hs : Ps) (line rest : Bs), prow wr w.heap.size v hs ∧ x = str line ∧ rdr wr b rest ∧ w.grownBy wr (some b) ∧ hstep 12 [] line0 rest0 = hstep k hs line rest ∧ k + hs.length = 12 ∧ line.length ≤ 100000 ∧ rest.length ≤ 100000) (fun v _ _ => 13 - slLen v)
    case atStart => exact ⟨12, [], line0, rest0, prow_nil _ _, rfl, hr, hg, rfl, rfl, by omega, by omega⟩
    case round =>
      obtain ⟨k, hs, line, rest, hrow, rfl, hrd, hgr, heq, hk, hline, hrest⟩ := hrel
      clear hr hg
      have HQ : Hid (hstep 12 [] line0 rest0 = hstep k hs line rest) := heq
      clear heq
      have hsz := hgr.size
      have E2 := E.grown hgr hb0
      obtain ⟨hlen, a, cap, rfl⟩ := hrow.len
      by_cases hne : line = []
      · subst hne
        have HP : Hid (headPost w b (hstep 12 [] line0 rest0) (.returned (.slice a hs.length cap)) wr) := by
          show headPost _ _ _ _ _
          rw [HQ.out, hstep_end]; exact ⟨hgr, _, rfl, hrow, hrd⟩
        go_wp2
        go_ret
        exact HP.out
      · have hie : line.isEmpty = false := by simpa using hne
        match k with
        | 0 =>
          have HP : Hid (hstep 12 [] line0 rest0 = none) := by show _ = _; rw [HQ.out, hstep_full hne]
          have h12 : ¬ ((hs.length : Int) < 12) := by omega
          go_wp2_with (go_at_call 135; refine (need_not _).mono ?_; rintro e w' ⟨rfl, rfl⟩)
          exact ⟨rfl, hgr, by rw [HP.out]⟩
        | k + 1 =>
          have h12 : (hs.length : Int) < 12 := by omega
          cases hh : headerOf line with
          | none =>
            have HP : Hid (hstep 12 [] line0 rest0 = none) := by show _ = _; rw [HQ.out, hstep_bad hne hh]
            have C : Hid (_) := readHeader_any line
            rw [hh] at C
            go_wp2_with (first | (go_at_call 135; refine (need_yes _).mono ?_; rintro e w' ⟨rfl, rfl⟩) | (go_at_call 141; refine (C.out _ E2 hline).mono ?_; rintro e w' ⟨rfl, hb5⟩; simp only [hdEnd]))
            exact ⟨rfl, grown_then hgr (hb5.mono hsz), by rw [HP.out]⟩
          | some p =>
            have C : Hid (_) := readHeader_any line
            rw [hh] at C
            by_cases ha : findP hs p.1 = none
            · obtain ⟨m1, m2⟩ := cut_le rest [10]
              have HZ : Hid (hstep 12 [] line0 rest0 = headersFrom k (hs ++ [p]) rest) := by show _ = _; rw [HQ.out, hstep_next hne hh ha]
              clear HQ
              go_wp2_with (first | (go_at_call 135; refine (need_yes _).mono ?_; rintro e w' ⟨rfl, rfl⟩) | (go_at_call 141; refine (C.out _ E2 hline).mono ?_; rintro e w5 ⟨rfl, hb5⟩; simp only [hdEnd]))
              have hrow5 := hrow.below hb5
              have hsz5 := hb5.size
              refine (addPair_ok _ hs p w.heap.size _ hrow5 (by omega) (by omega) ha).mono ?_
              rintro e w6 ⟨v6, rfl, hrow6, hb6⟩
              have hg6 := grown_then (grown_then hgr (hb5.mono hsz)) hb6
              have hrd6 := (hrd.below (show b < wr.heap.size by omega) hb5).below hbw hb6
              have E6 := E.grown hg6 hb0
              have hlen6 : Hid (slLen v6 = (hs ++ [p]).length) := hrow6.len.1
              clear hrow hrow5 hrd hgr E2 hb5 hb6 C
              cases hf : (Lib.cut rest [10]).2.2 with
              | false =>
                have HP : Hid (hstep 12 [] line0 rest0 = none) := by show _ = _; rw [HZ.out, headers_no hf]
                go_wp2_with (go_at_call 97; refine (readLine_no b rest _ hrd6 E6 hrest hf).mono ?_; rintro e w7 ⟨rfl, hg7⟩)
                exact ⟨rfl, grown_trans hg6 hg7, by rw [HP.out]⟩
              | true =>
                have HP : Hid (hstep 12 [] line0 rest0 = hstep k (hs ++ [p]) (Lib.cut rest [10]).1 (Lib.cut rest [10]).2.1) := by show _ = _; rw [HZ.out, headers_go hf]
                have C7 : Hid (_) := readLine_ok b rest
                generalize (Lib.cut rest [10]).1 = line7 at *
                generalize (Lib.cut rest [10]).2.1 = rest7 at *
                go_wp2_with (go_at_call 97; refine (C7.out _ hrd6 E6 hrest hf).mono ?_; rintro e w7 ⟨rfl, hrd7, hg7⟩)
                go_roundw
                case rel => exact ⟨k, hs ++ [p], line7, rest7, hrow6.grown hg7 hbw, rfl, hrd7, grown_trans hg6 hg7, HP.out, by simp; omega, by omega, by omega⟩
                case measure => rw [hlen6.out, hlen]; simp; omega
            · have HP : Hid (hstep 12 [] line0 rest0 = none) := by show _ = _; rw [HQ.out, hstep_two hne hh ha]
              go_wp2_with (first | (go_at_call 135; refine (need_yes _).mono ?_; rintro e w' ⟨rfl, rfl⟩) | (go_at_call 141; refine (C.out _ E2 hline).mono ?_; rintro e w5 ⟨rfl, hb5⟩; simp only [hdEnd]))
              have hrow5 := hrow.below hb5
              refine (addPair_no _ hs p w.heap.size _ hrow5 (by omega) ha).mono ?_
              rintro e w6 ⟨rfl, hb6⟩
              have hsz5 := hb5.size
              have HG := grown_then (grown_then hgr (hb5.mono hsz)) (hb6.mono (by omega))
              clear hrow hrow5 hrd hgr E2 hb5 hb6 C
              go_wp2
              exact ⟨rfl, HG, by rw [HP.out]⟩
end Go.Proofs.YtinnliapfdpfpaaGreatDoor.R
namespace Go.Proofs.YtinnliapfdpfpaaGreatDoor.R
open Go.RowKit
open Go.Proofs.YtinnliapfdpfpaaGreatDoor.C (ret_bool ret_int dec)

theorem str_of (b : ByteArray) : Value.string b = str b.data.toList := rfl
theorem split_cells (l sep : Bs) (h : 1 ≤ sep.length) :
    (Lib.splitB ⟨sep.toArray⟩ 0 (Lib.countB ⟨l.toArray⟩ ⟨sep.toArray⟩) ⟨l.toArray⟩).map Value.string = (Lib.split l sep).map str ∧ Lib.countB ⟨l.toArray⟩ ⟨sep.toArray⟩ + 1 = (Lib.split l sep).length := by
  have e := Lib.splitB_data ⟨sep.toArray⟩ 0 (Lib.countB ⟨l.toArray⟩ ⟨sep.toArray⟩) ⟨l.toArray⟩
  have e2 := Lib.splitB_all ⟨sep.toArray⟩ (by simpa [ByteArray.size] using h) 0 _ ⟨l.toArray⟩ rfl
  have e3 : Lib.splitK sep 0 (Lib.countB ⟨l.toArray⟩ ⟨sep.toArray⟩) l = Lib.split l sep := rfl
  have e4 : (Lib.splitB ⟨sep.toArray⟩ 0 (Lib.countB ⟨l.toArray⟩ ⟨sep.toArray⟩) ⟨l.toArray⟩).map (·.data.toList) = Lib.split l sep := e.trans e3
  constructor
  · rw [← e4, List.map_map]; rfl
  · rw [← e2, ← e4, List.length_map]
theorem split_r (l sep : Bs) (w : World) (E : Env w) (hl : l.length ≤ 1000000) (h1 : 1 ≤ sep.length) :
    Calls Tryz.prog 195 #[str l, str sep] w fun e w' => e = .returned (.slice (some ⟨w.heap.size, 0, none⟩) (Lib.split l sep).length (Lib.split l sep).length) ∧ w' = w.alloc (.cells ((Lib.split l sep).map str).toArray 9) := by
  obtain ⟨⟨m, hm⟩, _, _⟩ := E
  have := Tryz.strings_Split ⟨l.toArray⟩ ⟨sep.toArray⟩ m w (by simp [ByteArray.size]; omega) hm (by simpa [ByteArray.size] using h1)
  obtain ⟨e1, e2⟩ := split_cells l sep h1
  rw [e1, e2] at this
  exact this

theorem pair_no1 {t : Bs} (h : dec false (Lib.cut t [61]).1 = none) : pairOf t = none := by unfold pairOf; rw [h]
theorem pair_no2 {t : Bs} (h : dec false (Lib.cut t [61]).2.1 = none) : pairOf t = none := by unfold pairOf; rw [h]; split <;> first | rfl | simp_all
theorem pair_no3 {t v : Bs} (h : dec false (Lib.cut t [61]).1 = some []) (h2 : dec false (Lib.cut t [61]).2.1 = some v) : pairOf t = none := by unfold pairOf; rw [h, h2]; rfl
theorem pair_ok {t n v : Bs} (h : dec false (Lib.cut t [61]).1 = some n) (h2 : dec false (Lib.cut t [61]).2.1 = some v) (hn : n ≠ []) : pairOf t = some (n, v) := by unfold pairOf; rw [h, h2]; simp [hn]
theorem q_bad {l : Ps} {t : Bs} {r : List Bs} (h : pairOf t = none) : queryFrom l (t :: r) = none := by simp [queryFrom, h]
theorem q_two {l : Ps} {t : Bs} {r : List Bs} {p : Bs × Bs} (h : pairOf t = some p) (ha : ¬ findP l p.1 = none) : queryFrom l (t :: r) = none := by simp [queryFrom, h, addP, ha]
theorem q_next {l : Ps} {t : Bs} {r : List Bs} {p : Bs × Bs} (h : pairOf t = some p) (ha : findP l p.1 = none) : queryFrom l (t :: r) = queryFrom (l ++ [p]) r := by simp [queryFrom, h, addP, ha]

/-- How the reading of a query ends. -/
def qPost (w : World) (o : Option Ps) (e : Ending) (w' : World) : Prop :=
  Below w.heap.size w w' ∧ match o with
    | none => e = .panicked noR
    | some q => ∃ v, e = .returned v ∧ prow w' w.heap.size v q

set_option maxHeartbeats 1000000 in
theorem readQuery_any (l : Bs) (w : World) (E : Env w) (hl : l.length ≤ 100000) :
    Calls Tryz.prog 139 #[str l] w fun e w' => qPost w (queryOf l) e w' := by
  have hps : (Lib.split l [38]).length ≤ l.length + 1 := split_len l [38] (by simp)
  have hmem : ∀ t ∈ Lib.split l [38], t.length ≤ l.length := fun t h => split_mem (by simp) h
  have C : Hid (_) := split_r l [38]
  unfold queryOf
  generalize Lib.split l [38] = ps at *
  have hE0 := E.sz
  go_enter Tryz.func139, Tryz.ntmps139
  go_wp2_with fail
  refine (C.out w E (by omega) (by simp)).mono ?_
  rintro e w1 ⟨rfl, rfl⟩
  clear C
  have hcell : ∀ (k : Nat) (h : k < ps.length), (w.alloc (.cells (ps.map str).toArray 9)).cell? ⟨w.heap.size, k, none⟩ = some (str ps[k]) := by
    intro k h; simp [go_sem, h]
  have hB : Below w.heap.size w (w.alloc (.cells (ps.map str).toArray 9)) := (Below.refl _ w).alloc (Nat.le_refl _) _
  have hz : (w.alloc (.cells (ps.map str).toArray 9)).heap.size = w.heap.size + 1 := by simp
  generalize w.alloc (.cells (ps.map str).toArray 9) = w1 at *
  have E1 := E.below hB E.sz
  go_wp2
  go_loopw [3, 13] (fun v i wr => ∃ (k : Nat) (q : Ps), k ≤ ps.length ∧ i = .int .i64 k ∧ prow wr (w.heap.size + 1) v q ∧ Below (w.heap.size + 1) w1 wr ∧ queryFrom [] ps = queryFrom q (ps.drop k) ∧ q.length ≤ k) (fun _ i _ => ps.length - (intOf i).toNat)
  case atStart => exact ⟨0, [], Nat.zero_le _, rfl, prow_nil _ _, Below.refl _ _, by simp, by simp⟩
  case round =>
    obtain ⟨k, q, hk, rfl, hrow, hb, hq, hqk⟩ := hrel
    have HQ : Hid (queryFrom [] ps = queryFrom q (ps.drop k)) := hq
    clear hq
    have hsz := hb.size
    rw [hz] at hsz
    have E2 := E1.below hb (by omega)
    have HB : Below w.heap.size w wr := hB.trans (hb.mono (by omega))
    by_cases hlt : k < ps.length
    · have hc := (hb.cell (p := ⟨w.heap.size, k, none⟩) (show w.heap.size < w.heap.size + 1 by omega)).trans (hcell k hlt)
      have ht := hmem ps[k] (List.getElem_mem hlt)
      have hd : ps.drop k = ps[k] :: ps.drop (k + 1) := List.drop_eq_getElem_cons hlt
      have HD : Hid (queryFrom [] ps = queryFrom q (ps[k] :: ps.drop (k + 1))) := by show _ = _; rw [HQ.out, hd]
      clear hd HQ hmem hcell
      generalize ps[k] = t at *
      obtain ⟨n1, n2⟩ := cut_le t [61]
      have C2 : Hid (_) := cut_r t [61]
      have N1 := @pair_no1 t
      have N2 := @pair_no2 t
      have N3 := @pair_no3 t
      have N4 := @pair_ok t
      generalize Lib.cut t [61] = c at *
      obtain ⟨a, b, f⟩ := c
      simp only at n1 n2 N1 N2 N3 N4
      have D1 : Hid (_) := decode_r a false
      have D2 : Hid (_) := decode_r b false
      cases hd1 : dec false a with
      | none =>
        have HP : Hid (queryFrom [] ps = none) := by show _ = _; rw [HD.out, q_bad (N1 hd1)]
        rw [hd1] at D1
        clear N1 N2 N3 N4
        go_wp2_with (first | (go_at_call 100; refine (C2.out _ E2 (by omega)).mono ?_; rintro e w' ⟨rfl, n, rfl⟩) | (go_at_call 138; refine (D1.out _ (by omega)).mono ?_; rintro e w' ⟨rfl, hb5⟩; simp only [decR]))
        have HB5 := below_drewN (n := n) HB |>.trans (hb5.mono (by simp; omega))
        exact ⟨rfl, HB5, by rw [HP.out]⟩
      | some na =>
        cases hd2 : dec false b with
        | none =>
          have HP : Hid (queryFrom [] ps = none) := by show _ = _; rw [HD.out, q_bad (N2 hd2)]
          rw [hd1] at D1
          rw [hd2] at D2
          clear N1 N2 N3 N4
          go_wp2_with (go_at_call 100; refine (C2.out _ E2 (by omega)).mono ?_; rintro e w' ⟨rfl, n, rfl⟩)
          refine (D1.out _ (by omega)).mono ?_
          rintro e w5 ⟨rfl, hb5⟩
          simp only [decR]
          go_wp2_with fail
          refine (D2.out _ (by omega)).mono ?_
          rintro e w6 ⟨rfl, hb6⟩
          simp only [decR]
          have z5 := hb5.size
          have HB6 : Below w.heap.size w w6 := ((below_drewN HB n).trans (hb5.mono (by simp; omega))).trans (hb6.mono (by simp at z5; omega))
          clear hb5 hb6
          go_wp2
          exact ⟨rfl, HB6, by rw [HP.out]⟩
        | some vb =>
          rw [hd1] at D1
          rw [hd2] at D2
          have hrowN : prow (wr.drewN 0) (w.heap.size + 1) u3 q := hrow
          go_wp2_with (go_at_call 100; refine (C2.out _ E2 (by omega)).mono ?_; rintro e w' ⟨rfl, n, rfl⟩)
          refine (D1.out _ (by omega)).mono ?_
          rintro e w5 ⟨rfl, hb5⟩
          simp only [decR]
          go_wp2_with fail
          refine (D2.out _ (by omega)).mono ?_
          rintro e w6 ⟨rfl, hb6⟩
          simp only [decR]
          have z5 := hb5.size
          have z6 := hb6.size
          simp only [World.heap_drewN] at z5 hb5
          have hrow6 : prow w6 (w.heap.size + 1) u3 q := ((show prow (wr.drewN n) (w.heap.size + 1) u3 q from hrow).below hb5).below hb6
          have k6 : Below (w.heap.size + 1) w1 w6 := ((below_drewN hb n).trans (hb5.mono (by omega))).trans (hb6.mono (by omega))
          have HB6 : Below w.heap.size w w6 := hB.trans (k6.mono (by omega))
          clear hb5 hb6 hrow hrowN hb HB C2 D1 D2 E2 hc
          have BA : Below w.heap.size w (w6.alloc (.cells #[str na, str vb] 117)) := HB6.alloc (by omega) _
          have kA : Below (w.heap.size + 1) w1 (w6.alloc (.cells #[str na, str vb] 117)) := k6.alloc (by omega) _
          by_cases hna : na = []
          · subst hna
            have HP : Hid (queryFrom [] ps = none) := by show _ = _; rw [HD.out, q_bad (N3 hd1 hd2)]
            clear N1 N2 N3 N4
            go_wp2_with (go_at_call 135; refine (need_not _).mono ?_; rintro e w' ⟨rfl, rfl⟩)
            exact ⟨rfl, BA, by rw [HP.out]⟩
          · have hie : na.isEmpty = false := by simpa using hna
            have hpo := N4 hd1 hd2 hna
            by_cases ha : findP q na = none
            · have HP : Hid (queryFrom [] ps = queryFrom (q ++ [(na, vb)]) (ps.drop (k + 1))) := by show _ = _; rw [HD.out, q_next hpo ha]
              clear N1 N2 N3 N4 hpo HD
              go_wp2_with (first | (go_at_call 135; refine (need_yes _).mono ?_; rintro e w' ⟨rfl, rfl⟩) | (go_at_call 140; refine (addPair_ok u3 q (na, vb) (w.heap.size + 1) _ (hrow6.alloc _) (by simp; omega) (by omega) ha).mono ?_; rintro e w7 ⟨v7, rfl, hrow7, hb7⟩))
              go_roundw
              case rel => exact ⟨k + 1, q ++ [(na, vb)], by omega, by go_num, hrow7, kA.trans hb7, HP.out, by simp; omega⟩
              case measure => simp [intOf]; omega
            · have HP : Hid (queryFrom [] ps = none) := by show _ = _; rw [HD.out, q_two hpo ha]
              clear N1 N2 N3 N4 hpo HD
              go_wp2_with (first | (go_at_call 135; refine (need_yes _).mono ?_; rintro e w' ⟨rfl, rfl⟩) | (go_at_call 140; refine (addPair_no u3 q (na, vb) (w.heap.size + 1) _ (hrow6.alloc _) (by omega) ha).mono ?_; rintro e w7 ⟨rfl, hb7⟩))
              exact ⟨rfl, BA.trans (hb7.mono (by simp; omega)), by rw [HP.out]⟩
    · have HX : Hid (queryFrom [] ps = some q) := by show _ = _; rw [HQ.out, List.drop_eq_nil_of_le (by omega)]; rfl
      have HP : Hid (qPost w (queryFrom [] ps) (.returned u3) wr) := by
        show qPost _ _ _ _
        rw [HX.out]; exact ⟨HB, _, rfl, hrow.up (by omega)⟩
      go_wp2
      go_ret
      exact HP.out
end Go.Proofs.YtinnliapfdpfpaaGreatDoor.R
