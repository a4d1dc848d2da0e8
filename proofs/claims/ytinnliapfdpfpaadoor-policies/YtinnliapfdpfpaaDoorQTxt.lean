/-
  THE DOCUMENT's POLICIES: lists of texts.
-/
import Derived.Test.YtinnliapfdpfpaaDoorQMem2
import Derived.BigRegion
namespace Go.Proofs.YtinnliapfdpfpaaDoor.P
open Go.RowKit
open Go.Proofs.YtinnliapfdpfpaaDoor.C (ret_bool ret_int ret_str)

def qtPost (w : World) (o : Option (List (List UInt8))) (e : Ending) (w' : World) : Prop :=
  Below w.heap.size w w' ∧ match o with
  | none => e = .returned (.tuple #[.slice none 0 0, .bool false])
  | some l => ∃ v, e = .returned (.tuple #[v, .bool true]) ∧ srow w' w.heap.size v l
theorem qtPost_no {w w' : World} {o : Option (List (List UInt8))} (h : o = none) (hb : Below w.heap.size w w') : qtPost w o (.returned (.tuple #[.slice none 0 0, .bool false])) w' := by subst h; exact ⟨hb, rfl⟩
theorem qtPost_ok {w w' : World} {o : Option (List (List UInt8))} {l : List (List UInt8)} {v : Value} (h : o = some l) (hb : Below w.heap.size w w') (hv : srow w' w.heap.size v l) : qtPost w o (.returned (.tuple #[v, .bool true])) w' := by subst h; exact ⟨hb, v, rfl, hv⟩
theorem srow_base {w : World} {B B' : Nat} {v : Value} {l : List (List UInt8)} (h : srow w B v l) (hB : B' ≤ B) : srow w B' v l := by
  refine ⟨h.1, ?_⟩
  rcases h.2 with h0 | ⟨g, cap, cur, hv, hb, rest⟩
  · exact .inl h0
  · exact .inr ⟨g, cap, cur, hv, by omega, rest⟩
/-- The kind of a value's node. -/
def kindJ : J → Nat
  | .obj _ => 123
  | .arr _ => 91
  | .str _ => 34
  | .bool _ => 119
  | .null => 119
theorem tree_kind {k : Nat} {M : List Nd} {n : Nat} {j : J} (h : treeJ k M n j) : ∃ nd, M[n]? = some nd ∧ nd.kind = kindJ j ∧ (∀ l, j = .arr l → all2 (fun i j => treeJ (k - 1) M i j) nd.kids l) ∧ (∀ s, j = .str s → nd.text = s) ∧
    (∀ l, j = .obj l → nd.names = l.map (·.1) ∧ all2 (fun i (j : List UInt8 × J) => treeJ (k - 1) M i j.2) nd.kids l) ∧ ((∀ l, j ≠ .obj l) → nd.names = []) := by
  match k, h with
  | k + 1, ⟨nd, h1, h2⟩ =>
    refine ⟨nd, h1, ?_⟩
    cases j with
    | obj l => exact ⟨h2.1, (fun _ e => by cases e), (fun _ e => by cases e), (fun _ e => by cases e; exact h2.2), fun h => absurd rfl (h l)⟩
    | arr l => exact ⟨h2.1, (fun _ e => by cases e; exact h2.2.2), (fun _ e => by cases e), (fun _ e => by cases e), fun _ => h2.2.1⟩
    | str s => exact ⟨h2.1, (fun _ e => by cases e), (fun _ e => by cases e; exact h2.2.1), (fun _ e => by cases e), fun _ => h2.2.2⟩
    | bool x => exact ⟨h2.1, (fun _ e => by cases e), (fun _ e => by cases e), (fun _ e => by cases e), fun _ => h2.2⟩
    | null => exact ⟨h2.1, (fun _ e => by cases e), (fun _ e => by cases e), (fun _ e => by cases e), fun _ => h2.2⟩
theorem kind_arr {j : J} (h : kindJ j = 91) : ∃ l, j = .arr l := by cases j <;> first | exact ⟨_, rfl⟩ | cases h
theorem kind_str {j : J} (h : kindJ j = 34) : ∃ s, j = .str s := by cases j <;> first | exact ⟨_, rfl⟩ | cases h
theorem kind_obj {j : J} (h : kindJ j = 123) : ∃ l, j = .obj l := by cases j <;> first | exact ⟨_, rfl⟩ | cases h
theorem texts_not {j : J} (h : ¬ kindJ j = 91) : textsJ j = none := by cases j <;> first | rfl | exact absurd rfl h
theorem str_not {j : J} (h : ¬ kindJ j = 34) : strJ j = none := by cases j <;> first | rfl | exact absurd rfl h
set_option maxHeartbeats 4000000 in
set_option maxRecDepth 20000 in
theorem texts_any (b : Nat) (M : List Nd) (n k : Nat) (j : J) (w : World) (hT : TV b M w) (ht : treeJ k M n j) :
    Calls Tryd.prog 88 #[.pointer (some ⟨b, 0, none⟩), .int .i64 (n : Int)] w (qtPost w (textsJ j)) := by
  obtain ⟨nd, hn, hkd, hka, -, -, -⟩ := tree_kind ht
  obtain ⟨g, cap, a1, c1, a2, c2, V⟩ := hT.node hn
  have lt := V.lt; have cb := V.cb; have d0 := V.d0; have d1 := V.d1; have d2 := V.d2; have d3 := V.d3
  have bA : Below w.heap.size w (w.alloc (.cells #[.int .u8 (nd.kind : Int), str nd.text, .slice a1 nd.names.length c1, .slice a2 nd.kids.length c2] 104)) := (Below.refl _ _).alloc (Nat.le_refl _) _
  have VA := V.below bA
  have TA := hT.below bA
  have x0 : (w.alloc (.cells #[.int .u8 (nd.kind : Int), str nd.text, .slice a1 nd.names.length c1, .slice a2 nd.kids.length c2] 104)).cell? ⟨w.heap.size, 0, none⟩ = some (.int .u8 (nd.kind : Int)) := by simp [go_sem]
  have x3 : (w.alloc (.cells #[.int .u8 (nd.kind : Int), str nd.text, .slice a1 nd.names.length c1, .slice a2 nd.kids.length c2] 104)).cell? ⟨w.heap.size, 3, none⟩ = some (.slice a2 nd.kids.length c2) := by simp [go_sem]
  obtain ⟨_, _, ek, _, hck⟩ := row_view VA.rk
  simp only [Value.slice.injEq] at ek
  obtain ⟨rfl, -, rfl⟩ := ek
  have HCK : Hid (_) := hck
  clear hck V VA hT
  by_cases h91 : nd.kind = 91
  · obtain ⟨l, rfl⟩ := kind_arr (hkd.symm.trans h91)
    have HK : Hid (all2 (fun i j => treeJ (k - 1) M i j) nd.kids l) := hka l rfl
    have hlen : nd.kids.length = l.length := all2_len HK.out
    have p1 : ((nd.kind : Int) != 91) = false := by simp; omega
    clear hka ht h91 hkd
    by_cases hl : 1 ≤ l.length ∧ l.length ≤ 4
    · have p2 : decide ((nd.kids.length : Int) < 1) = false := by simp; omega
      have p3 : decide (4 < (nd.kids.length : Int)) = false := by simp; omega
      have HLEN : Hid (nd.kids.length = l.length) := hlen
      have hk4 : nd.kids.length ≤ 4 := by omega
      clear hlen
      go_enter Tryd.func88, Tryd.ntmps88
      go_wp2
      clear cb d0 d1 d2 d3
      generalize (w.alloc (.cells #[.int .u8 (nd.kind : Int), str nd.text, .slice a1 nd.names.length c1, .slice a2 nd.kids.length c2] 104)) = W at *
      have hbW := bA.size
      go_loopw [7, 8] (fun tv i wr => ∃ m : Nat, ∃ acc, m ≤ nd.kids.length ∧ i = .int .i64 m ∧ srow wr W.heap.size tv acc ∧ strsJ (l.take m) = some acc ∧ acc.length ≤ m ∧ Below W.heap.size W wr) (fun _ i _ => nd.kids.length - (intOf i).toNat)
      case atStart => exact ⟨0, [], Nat.zero_le _, rfl, srow_nil _ _, rfl, Nat.le_refl _, Below.refl _ _⟩
      case round =>
        obtain ⟨m, acc, hm, rfl, hs, hso, hacc, hb⟩ := hrel
        have HS : Hid (strsJ (l.take m) = some acc) := hso
        clear hso
        have hsz := hb.size
        have hxb : w.heap.size < W.heap.size := World.block_lt_of_cell? W ⟨w.heap.size, 0, none⟩ x0
        have y3 := (hb.cell (p := ⟨w.heap.size, 3, none⟩) hxb).trans x3
        have KB : Below w.heap.size w wr := bA.trans (hb.mono hbW)
        by_cases hlt : m < nd.kids.length
        · have hml : m < l.length := by have := HLEN.out; omega
          obtain ⟨gk, rfl, ek1, hgk⟩ := HCK.out m (kidV nd.kids[m]) (by rw [List.getElem?_map, List.getElem?_eq_getElem hlt]; rfl)
          unfold kidV at ek1
          replace ek1 := (hb.cell (p := ⟨gk, m, none⟩) hgk).trans ek1
          have htm := all2_get HK.out m hlt hml
          obtain ⟨nd2, hn2, hkd2, -, hst2, -, -⟩ := tree_kind htm
          obtain ⟨g2, cap2, b1, e1, b2, e2, V2⟩ := (TA.below hb).node hn2
          have lt2 := V2.lt; have cb2 := V2.cb; have v0 := V2.d0; have v1 := V2.d1; have v2 := V2.d2; have v3 := V2.d3
          obtain ⟨kk, hkk⟩ : ∃ kk, kk = nd.kids[m] := ⟨_, rfl⟩
          rw [← hkk] at ek1 lt2 v0 v1 v2 v3
          clear V2 hn2 htm hkk
          have HI : wr.heap.size < wr.heap.size → wr.heap.size ≤ wr.heap.size := fun _ => Nat.le_refl _
          have KK : ∀ W', Kept (fun x => wr.heap.size ≤ x) wr W' → (fun w' => w'.cell? ⟨b, 3, none⟩ = some (.slice (some ⟨g2, 0, none⟩) M.length cap2) ∧ w'.cell? ⟨w.heap.size, 3, none⟩ = some (.slice (some ⟨gk, 0, none⟩) nd.kids.length c2) ∧ w'.cell? ⟨gk, m, none⟩ = some (.int .i64 (kk : Int)) ∧ w'.cell? ⟨g2, kk * 4, none⟩ = some (.int .u8 (nd2.kind : Int)) ∧ w'.cell? ⟨g2, kk * 4 + 1, none⟩ = some (str nd2.text) ∧ w'.cell? ⟨g2, kk * 4 + 2, none⟩ = some (.slice b1 nd2.names.length e1) ∧ w'.cell? ⟨g2, kk * 4 + 3, none⟩ = some (.slice b2 nd2.kids.length e2)) W' := by
            intro W' K
            have lo : ∀ {a : Addr} {v : Value}, wr.cell? a = some v → W'.cell? a = some v := fun {a} {v} h => K.cell h (Nat.not_le_of_lt (World.block_lt_of_cell? wr a h))
            exact ⟨lo cb2, lo y3, lo ek1, lo v0, lo v1, lo v2, lo v3⟩
          by_cases h34 : nd2.kind = 34
          · obtain ⟨s, hjs⟩ := kind_str (hkd2.symm.trans h34)
            have htx := hst2 s hjs
            have q1 : ((nd2.kind : Int) != 34) = false := by simp; omega
            have HY : Hid (strsJ (l.take (m + 1)) = some (acc ++ [nd2.text])) := by show _ = _; rw [take_snoc' hml, strsJ_snoc, HS.out]; simp only; rw [hjs, htx]; rfl
            clear HS hst2 hjs htx h34 hkd2
            go_wp2_with fail
            go_region_held3 (fun w' => w'.cell? ⟨b, 3, none⟩ = some (.slice (some ⟨g2, 0, none⟩) M.length cap2) ∧ w'.cell? ⟨w.heap.size, 3, none⟩ = some (.slice (some ⟨gk, 0, none⟩) nd.kids.length c2) ∧ w'.cell? ⟨gk, m, none⟩ = some (.int .i64 (kk : Int)) ∧ w'.cell? ⟨g2, kk * 4, none⟩ = some (.int .u8 (nd2.kind : Int)) ∧ w'.cell? ⟨g2, kk * 4 + 1, none⟩ = some (str nd2.text) ∧ w'.cell? ⟨g2, kk * 4 + 2, none⟩ = some (.slice b1 nd2.names.length e1) ∧ w'.cell? ⟨g2, kk * 4 + 3, none⟩ = some (.slice b2 nd2.kids.length e2)) (first | exact KK _ (Kept.refl _ _).drew | exact KK _ ((Kept.refl _ _).alloc _).drew) (fail)
            rename_i hHeld
            clear hHeld KK HI
            have yk : ((wr.alloc (.cells #[.int .u8 (nd2.kind : Int), str nd2.text, .slice b1 nd2.names.length e1, .slice b2 nd2.kids.length e2] 104)).drew).cell? ⟨wr.heap.size, 0, none⟩ = some (.int .u8 (nd2.kind : Int)) := by simp [go_sem]
            have yt : ((wr.alloc (.cells #[.int .u8 (nd2.kind : Int), str nd2.text, .slice b1 nd2.names.length e1, .slice b2 nd2.kids.length e2] 104)).drew).cell? ⟨wr.heap.size, 1, none⟩ = some (str nd2.text) := by simp [go_sem]
            have hs9 : srow ((wr.alloc (.cells #[.int .u8 (nd2.kind : Int), str nd2.text, .slice b1 nd2.names.length e1, .slice b2 nd2.kids.length e2] 104)).drew) W.heap.size _ acc := hs.alloc _
            have b9 : Below W.heap.size W ((wr.alloc (.cells #[.int .u8 (nd2.kind : Int), str nd2.text, .slice b1 nd2.names.length e1, .slice b2 nd2.kids.length e2] 104)).drew) := (hb.alloc hsz _).drew
            have z9 := b9.size
            generalize ((wr.alloc (.cells #[.int .u8 (nd2.kind : Int), str nd2.text, .slice b1 nd2.names.length e1, .slice b2 nd2.kids.length e2] 104)).drew) = W9 at *
            go_wp2_with (at_builtin; refine sapp_law rfl _ _ rfl W.heap.size acc nd2.text _ rfl (hs9.alloc _) _ rfl _ (heap_alloc_new _ _) (by omega) (by simp; omega) ?_; intro g8 cap8 w8 row8 hg8 h8 hb8)
            have K8 : Below W.heap.size W w8 := Below.trans (b9.alloc z9 _) hb8
            go_roundw
            case rel => exact ⟨m + 1, acc ++ [nd2.text], by omega, by go_num, row8, HY.out, by simp; omega, K8⟩
            case measure => simp [intOf]; omega
          · have hjn : strJ l[m] = none := str_not (by rw [← hkd2]; exact h34)
            have HN : Hid (textsJ (.arr l) = none) := by
              show _ = _
              rw [textsJ_arr hl]
              have := strsJ_none (l.take (m + 1)) (l.drop (m + 1)) (by rw [take_snoc' hml, strsJ_snoc, HS.out]; simp only; rw [hjn])
              rwa [List.take_append_drop] at this
            have q1 : ((nd2.kind : Int) != 34) = true := by simp; omega
            clear HS hst2 hjn h34 hkd2
            go_wp2_with fail
            go_region_held3 (fun w' => w'.cell? ⟨b, 3, none⟩ = some (.slice (some ⟨g2, 0, none⟩) M.length cap2) ∧ w'.cell? ⟨w.heap.size, 3, none⟩ = some (.slice (some ⟨gk, 0, none⟩) nd.kids.length c2) ∧ w'.cell? ⟨gk, m, none⟩ = some (.int .i64 (kk : Int)) ∧ w'.cell? ⟨g2, kk * 4, none⟩ = some (.int .u8 (nd2.kind : Int)) ∧ w'.cell? ⟨g2, kk * 4 + 1, none⟩ = some (str nd2.text) ∧ w'.cell? ⟨g2, kk * 4 + 2, none⟩ = some (.slice b1 nd2.names.length e1) ∧ w'.cell? ⟨g2, kk * 4 + 3, none⟩ = some (.slice b2 nd2.kids.length e2)) (first | exact KK _ (Kept.refl _ _).drew | exact KK _ ((Kept.refl _ _).alloc _).drew) (fail)
            go_wp2
            go_ret2
            exact qtPost_no HN.out (KB.alloc KB.size _).drew
        · obtain rfl : m = nd.kids.length := by omega
          have HD : Hid (textsJ (.arr l) = some acc) := by show _ = _; rw [textsJ_arr hl]; have := HS.out; rwa [HLEN.out, List.take_length] at this
          clear HS
          go_wp2
          go_ret2
          exact qtPost_ok HD.out KB (srow_base hs hbW)
    · have HN : Hid (textsJ (.arr l) = none) := textsJ_out hl
      by_cases h1 : 1 ≤ l.length
      · have p2 : decide ((nd.kids.length : Int) < 1) = false := by simp; omega
        have p3 : decide (4 < (nd.kids.length : Int)) = true := by simp; omega
        clear hlen
        go_enter Tryd.func88, Tryd.ntmps88
        go_wp2
        go_ret2
        exact qtPost_no HN.out bA
      · have p2 : decide ((nd.kids.length : Int) < 1) = true := by simp; omega
        clear hlen
        go_enter Tryd.func88, Tryd.ntmps88
        go_wp2
        go_ret2
        exact qtPost_no HN.out bA
  · have HN : Hid (textsJ j = none) := texts_not (by rw [← hkd]; exact h91)
    have p1 : ((nd.kind : Int) != 91) = true := by simp; omega
    clear hka ht hkd
    go_enter Tryd.func88, Tryd.ntmps88
    go_wp2
    go_ret2
    exact qtPost_no HN.out bA
end Go.Proofs.YtinnliapfdpfpaaDoor.P
