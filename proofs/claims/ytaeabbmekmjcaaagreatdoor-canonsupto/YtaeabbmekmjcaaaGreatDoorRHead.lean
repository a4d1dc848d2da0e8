/-
  THE HEADERS OF A REQUEST, as the program reads them.
-/
import Derived.Test.YtaeabbmekmjcaaaGreatDoorRLine
namespace Go.Proofs.YtaeabbmekmjcaaaGreatDoor.R
open Go.RowKit
open Go.Proofs.YtaeabbmekmjcaaaGreatDoor.C (ret_bool ret_int dec grown_trans grown_set grown_then grown_below)

/-- Header lines from a line on that has been read. -/
def hstep (k : Nat) (hs : Ps) (line rest : Bs) : Option (Ps × Bs) :=
  if line = [] then some (hs, rest) else match k with
    | 0 => none
    | k + 1 => match headerOf line with
      | none => none
      | some p => match addP hs p with
        | none => none
        | some l' => headersFrom k l' rest
theorem headers_no {k : Nat} {hs : Ps} {l : Bs} (h : (Lib.cut l [10]).2.2 = false) : headersFrom k hs l = none := by
  unfold headersFrom; rw [if_pos h]
theorem headers_go {k : Nat} {hs : Ps} {l : Bs} (h : (Lib.cut l [10]).2.2 = true) : headersFrom k hs l = hstep k hs (Lib.cut l [10]).1 (Lib.cut l [10]).2.1 := by
  conv => lhs; unfold headersFrom
  rw [if_neg (by simp [h])]; rfl
theorem hstep_end (k : Nat) (hs : Ps) (rest : Bs) : hstep k hs [] rest = some (hs, rest) := by unfold hstep; simp
theorem hstep_full {hs : Ps} {line rest : Bs} (h : line ≠ []) : hstep 0 hs line rest = none := by unfold hstep; rw [if_neg h]
theorem hstep_bad {k : Nat} {hs : Ps} {line rest : Bs} (h : line ≠ []) (hh : headerOf line = none) : hstep k hs line rest = none := by
  unfold hstep; rw [if_neg h]; cases k with
  | zero => rfl
  | succ k => simp only [hh]
theorem hstep_two {k : Nat} {hs : Ps} {line rest : Bs} {p : Bs × Bs} (h : line ≠ []) (hh : headerOf line = some p) (ha : ¬ findP hs p.1 = none) : hstep k hs line rest = none := by
  unfold hstep; rw [if_neg h]; cases k with
  | zero => rfl
  | succ k => simp only [hh, addP, if_neg ha]
theorem hstep_next {k : Nat} {hs : Ps} {line rest : Bs} {p : Bs × Bs} (h : line ≠ []) (hh : headerOf line = some p) (ha : findP hs p.1 = none) : hstep (k + 1) hs line rest = headersFrom k (hs ++ [p]) rest := by
  unfold hstep; rw [if_neg h]; simp only [hh, addP, if_pos ha]

/-- How many a row has. -/
def slLen : Value → Nat
  | .slice _ n _ => n
  | _ => 0
theorem prow.len {w : World} {B : Nat} {v : Value} {l : Ps} (h : prow w B v l) : slLen v = l.length ∧ ∃ a cap, v = .slice a l.length cap := by
  obtain ⟨_, ⟨rfl, hn⟩ | ⟨g, cap, cur, rfl, _⟩⟩ := h
  · exact ⟨hn.symm, none, 0, by rw [hn]⟩
  · exact ⟨rfl, _, cap, rfl⟩
theorem prow.grown {w w' : World} {B b : Nat} {v : Value} {l : Ps} (h : prow w B v l) (k : w.grownBy w' (some b)) (hb : b < B) : prow w' B v l :=
  World.ownsRow.kept h k (by
    cases hv : v.ownBlock with
    | none => exact Or.inl rfl
    | some k => right; have := h.lt k hv; intro e; simp at e; omega)
theorem need_yes (w : World) : Calls Tryz.prog 66 #[.bool true] w fun e w' => e = .returned (.tuple #[]) ∧ w = w' := (need_ok w).mono fun _ _ ⟨h1, h2⟩ => ⟨h1, h2.symm⟩
theorem need_not (w : World) : Calls Tryz.prog 66 #[.bool false] w fun e w' => e = .panicked noR ∧ w = w' := (need_no w).mono fun _ _ ⟨h1, h2⟩ => ⟨h1, h2.symm⟩
/-- How the reading of the headers ends. -/
def headPost (w : World) (b : Nat) (o : Option (Ps × Bs)) (e : Ending) (w' : World) : Prop :=
  w.grownBy w' (some b) ∧ match o with
    | none => e = .panicked noR
    | some x => ∃ v, e = .returned v ∧ prow w' w.heap.size v x.1 ∧ rdr w' b x.2

set_option maxHeartbeats 1000000 in
theorem readHeaders_any (b : Nat) (l : Bs) (w : World) (h : rdr w b l) (E : Env w) (hb0 : gTop ≤ b) (hl : l.length ≤ 100000) :
    Calls Tryz.prog 43 #[.pointer (some ⟨b, 0, none⟩)] w fun e w' => headPost w b (headersFrom 12 [] l) e w' := by
  have hbw := h.lt
  obtain ⟨n1, n2⟩ := cut_le l [10]
  cases hf : (Lib.cut l [10]).2.2 with
  | false =>
    rw [headers_no hf]
    go_enter Tryz.func43, Tryz.ntmps43
    go_wp2_with fail
    refine (readLine_no b l w h E hl hf).mono ?_
    rintro e w1 ⟨rfl, hg⟩
    clear h E
    go_wp2
    exact ⟨rfl, hg, rfl⟩
  | true =>
    rw [headers_go hf]
    have C : Hid (_) := readLine_ok b l
    generalize (Lib.cut l [10]).1 = line0 at *
    generalize (Lib.cut l [10]).2.1 = rest0 at *
    go_enter Tryz.func43, Tryz.ntmps43
    go_wp2_with fail
    refine (C.out w h E hl hf).mono ?_
    rintro e w1 ⟨rfl, hr, hg⟩
    clear C h hf
    go_wp2
    go_loopw [3, 4] (fun v x wr => ∃ (k : Nat) (hs : Ps) (line rest : Bs), prow wr w.heap.size v hs ∧ x = str line ∧ rdr wr b rest ∧ w.grownBy wr (some b) ∧ hstep 12 [] line0 rest0 = hstep k hs line rest ∧ k + hs.length = 12 ∧ line.length ≤ 100000 ∧ rest.length ≤ 100000) (fun v _ _ => 13 - slLen v)
    case atStart => exact ⟨12, [], line0, rest0, prow_nil _ _, rfl, hr, hg, rfl, rfl, by omega, by omega⟩
    case round =>
      obtain ⟨k, hs, line, rest, hrow, rfl, hrd, hgr, heq, hk, hline, hrest⟩ := hrel
      clear hr hg
      have HQ : Hid (hstep 12 [] line0 rest0 = hstep k hs line rest) := heq
      clear heq
      have hsz := hgr.size
      have E2 := E.grown hgr hb0
      obtain ⟨hlen, a, cap, rfl⟩ := hrow.len
      by_cases hne : line = []
      · subst hne
        have HP : Hid (headPost w b (hstep 12 [] line0 rest0) (.returned (.slice a hs.length cap)) wr) := by
          show headPost _ _ _ _ _
          rw [HQ.out, hstep_end]; exact ⟨hgr, _, rfl, hrow, hrd⟩
        go_wp2
        go_ret
        exact HP.out
      · have hie : line.isEmpty = false := by simpa using hne
        match k with
        | 0 =>
          have HP : Hid (hstep 12 [] line0 rest0 = none) := by show _ = _; rw [HQ.out, hstep_full hne]
          have h12 : ¬ ((hs.length : Int) < 12) := by omega
          go_wp2_with (go_at_call 66; refine (need_not _).mono ?_; rintro e w' ⟨rfl, rfl⟩)
          exact ⟨rfl, hgr, by rw [HP.out]⟩
        | k + 1 =>
          have h12 : (hs.length : Int) < 12 := by omega
          cases hh : headerOf line with
          | none =>
            have HP : Hid (hstep 12 [] line0 rest0 = none) := by show _ = _; rw [HQ.out, hstep_bad hne hh]
            have C : Hid (_) := readHeader_any line
            rw [hh] at C
            go_wp2_with (first | (go_at_call 66; refine (need_yes _).mono ?_; rintro e w' ⟨rfl, rfl⟩) | (go_at_call 72; refine (C.out _ E2 hline).mono ?_; rintro e w' ⟨rfl, hb5⟩; simp only [hdEnd]))
            exact ⟨rfl, grown_then hgr (hb5.mono hsz), by rw [HP.out]⟩
          | some p =>
            have C : Hid (_) := readHeader_any line
            rw [hh] at C
            by_cases ha : findP hs p.1 = none
            · obtain ⟨m1, m2⟩ := cut_le rest [10]
              have HZ : Hid (hstep 12 [] line0 rest0 = headersFrom k (hs ++ [p]) rest) := by show _ = _; rw [HQ.out, hstep_next hne hh ha]
              clear HQ
              go_wp2_with (first | (go_at_call 66; refine (need_yes _).mono ?_; rintro e w' ⟨rfl, rfl⟩) | (go_at_call 72; refine (C.out _ E2 hline).mono ?_; rintro e w5 ⟨rfl, hb5⟩; simp only [hdEnd]))
              have hrow5 := hrow.below hb5
              have hsz5 := hb5.size
              refine (addPair_ok _ hs p w.heap.size _ hrow5 (by omega) (by omega) ha).mono ?_
              rintro e w6 ⟨v6, rfl, hrow6, hb6⟩
              have hg6 := grown_then (grown_then hgr (hb5.mono hsz)) hb6
              have hrd6 := (hrd.below (show b < wr.heap.size by omega) hb5).below hbw hb6
              have E6 := E.grown hg6 hb0
              have hlen6 : Hid (slLen v6 = (hs ++ [p]).length) := hrow6.len.1
              clear hrow hrow5 hrd hgr E2 hb5 hb6 C
              cases hf : (Lib.cut rest [10]).2.2 with
              | false =>
                have HP : Hid (hstep 12 [] line0 rest0 = none) := by show _ = _; rw [HZ.out, headers_no hf]
                go_wp2_with (go_at_call 42; refine (readLine_no b rest _ hrd6 E6 hrest hf).mono ?_; rintro e w7 ⟨rfl, hg7⟩)
                exact ⟨rfl, grown_trans hg6 hg7, by rw [HP.out]⟩
              | true =>
                have HP : Hid (hstep 12 [] line0 rest0 = hstep k (hs ++ [p]) (Lib.cut rest [10]).1 (Lib.cut rest [10]).2.1) := by show _ = _; rw [HZ.out, headers_go hf]
                have C7 : Hid (_) := readLine_ok b rest
                generalize (Lib.cut rest [10]).1 = line7 at *
                generalize (Lib.cut rest [10]).2.1 = rest7 at *
                go_wp2_with (go_at_call 42; refine (C7.out _ hrd6 E6 hrest hf).mono ?_; rintro e w7 ⟨rfl, hrd7, hg7⟩)
                go_roundw
                case rel => exact ⟨k, hs ++ [p], line7, rest7, hrow6.grown hg7 hbw, rfl, hrd7, grown_trans hg6 hg7, HP.out, by simp; omega, by omega, by omega⟩
                case measure => rw [hlen6.out, hlen]; simp; omega
            · have HP : Hid (hstep 12 [] line0 rest0 = none) := by show _ = _; rw [HQ.out, hstep_two hne hh ha]
              go_wp2_with (first | (go_at_call 66; refine (need_yes _).mono ?_; rintro e w' ⟨rfl, rfl⟩) | (go_at_call 72; refine (C.out _ E2 hline).mono ?_; rintro e w5 ⟨rfl, hb5⟩; simp only [hdEnd]))
              have hrow5 := hrow.below hb5
              refine (addPair_no _ hs p w.heap.size _ hrow5 (by omega) ha).mono ?_
              rintro e w6 ⟨rfl, hb6⟩
              have hsz5 := hb5.size
              have HG := grown_then (grown_then hgr (hb5.mono hsz)) (hb6.mono (by omega))
              clear hrow hrow5 hrd hgr E2 hb5 hb6 C
              go_wp2
              exact ⟨rfl, HG, by rw [HP.out]⟩
end Go.Proofs.YtaeabbmekmjcaaaGreatDoor.R
