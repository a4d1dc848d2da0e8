/-
  KNew2, KNew3, KSgn2, KSgn3, KSgn4.
-/
import Derived.Test.YtbllcgibmgbnjaaGreatDoorM25
import Derived.Test.YtbllcgibmgbnjaaGreatDoorM19
namespace Go.Proofs.YtbllcgibmgbnjaaGreatDoor.P
open Go.RowKit
open Go.Proofs.YtbllcgibmgbnjaaGreatDoor.C (ret_bool ret_int ret_str)

/-- Each is a user, and no name stands twice. -/
structure GoodU (us : Us) : Prop where
  lo : 1 ≤ us.length
  hi : us.length ≤ 6
  u : ∀ x ∈ us, userP x = true
  d : ∀ k (h : k < us.length), (us.take k).any (fun x => x.1 == us[k].1) = false
theorem userP_len {x : Tx × Tx} (h : userP x = true) : x.1.length ≤ 12 ∧ x.2.length ≤ 40 ∧ x.2 ≠ [] := by
  unfold userP nameP at h
  simp only [Bool.and_eq_true, decide_eq_true_eq] at h
  exact ⟨h.1.1.2.2, h.2, fun e => by have := h.1.2; rw [e] at this; simp at this⟩
theorem UR.take {a : Option Addr} {us : Us} {w : World} (h : UR a us w) (k : Nat) : UR a (us.take k) w :=
  ⟨fun i hi => by
    have hi2 : i < us.length := by simp at hi; omega
    obtain ⟨b, o, e, hb, c0, c1⟩ := h.at_ i hi2
    rw [List.getElem_take]
    exact ⟨b, o, e, hb, c0, c1⟩⟩
set_option maxHeartbeats 4000000 in
set_option maxRecDepth 20000 in
theorem areUsers_good (a : Option Addr) (cap : Nat) (us : Us) (hcap : us.length ≤ cap) (g : GoodU us) (w : World) (h : UR a us w) :
    Calls Tryz.prog 63 #[.slice a us.length cap] w fun e w' => e = .returned (.bool true) ∧ Below w.heap.size w w' := by
  have HU : Hid (UR a us w) := h
  have HG : Hid (GoodU us) := g
  have h1 := g.lo; have h6 := g.hi
  clear h g
  have t1 : decide ((us.length : Int) < 1) = false := by simp; omega
  have t2 : decide (6 < (us.length : Int)) = false := by simp; omega
  go_enter Tryz.func63, Tryz.ntmps63
  go_wp2
  go_loopw [15] (fun i wr => ∃ k : Nat, k ≤ us.length ∧ i = .int .i64 k ∧ Below w.heap.size w wr) (fun i _ => us.length - (intOf i).toNat)
  case atStart => exact ⟨0, Nat.zero_le _, rfl, Below.refl _ _⟩
  case round =>
    obtain ⟨k, hk, rfl, hb⟩ := hrel
    have hsz := hb.size
    by_cases hlt : k < us.length
    · have UW := HU.out.below hb
      obtain ⟨b, o, rfl, hbb, c0, c1⟩ := UW.at_ k hlt
      have hu := HG.out.u us[k] (List.getElem_mem hlt)
      have hd := HG.out.d k hlt
      have ltk : (us.take k).length = k := by simp; omega
      obtain ⟨x, y, hxy⟩ : ∃ x y, us[k] = (x, y) := ⟨_, _, rfl⟩
      rw [hxy] at c0 c1 hu hd
      have hln := userP_len hu
      have IU : Hid (∀ W, Calls Tryz.prog 90 #[.agg #[str x, str y]] W fun e w' => e = .returned (.bool true) ∧ Below W.heap.size W w') := fun W => by
        have := isUser2_any (x, y) (by omega) (by omega) W
        rwa [hu] at this
      have HN : Hid (∀ W, Below wr.heap.size wr W → Calls Tryz.prog 91 #[.slice (some ⟨b, o, none⟩) k cap, str x] W fun e w' => e = .returned (.bool false) ∧ Below W.heap.size W w') := fun W hW => by
        have := hasName_any (some ⟨b, o, none⟩) cap (us.take k) x (by omega) W ((UW.below hW).take k)
        rw [ltk] at this
        simp only at hd
        rwa [hd] at this
      clear UW ltk hxy hu hd
      have d0 : (wr.alloc (.cells #[str x, str y] 29)).cell? ⟨wr.heap.size, 0, none⟩ = some (str x) := by simp [go_sem]
      have d1 : (wr.alloc (.cells #[str x, str y] 29)).cell? ⟨wr.heap.size, 1, none⟩ = some (str y) := by simp [go_sem]
      have BB : Below wr.heap.size wr (wr.alloc (.cells #[str x, str y] 29)).drew := ((Below.refl _ _).alloc (Nat.le_refl _) _).drew
      have hz0 : wr.heap.size < (wr.alloc (.cells #[str x, str y] 29)).drew.heap.size := by simp
      have zk1 : (0 : Int) ≤ (k : Int) := by omega
      have zk2 : (k : Int) ≤ (us.length : Int) := by omega
      have zk3 : (k : Int) ≤ (cap : Int) := by omega
      go_wp2_with fail
      generalize (wr.alloc (.cells #[str x, str y] 29)) = W0 at *
      replace d0 : W0.drew.cell? ⟨wr.heap.size, 0, none⟩ = some (str x) := d0
      replace d1 : W0.drew.cell? ⟨wr.heap.size, 1, none⟩ = some (str y) := d1
      go_region_held3 (fun w' => w'.cell? ⟨wr.heap.size, 0, none⟩ = some (str x) ∧ w'.cell? ⟨wr.heap.size, 1, none⟩ = some (str y)) (first | exact ⟨d0, d1⟩)
        (first
          | (go_at_call 90; with_reducible refine Calls.mono (IU.out _) ?_; rintro e w1 ⟨rfl, b1⟩; replace d0 := (b1.cell (p := ⟨wr.heap.size, 0, none⟩) hz0).trans d0; replace d1 := (b1.cell (p := ⟨wr.heap.size, 1, none⟩) hz0).trans d1; replace BB := below_trans BB b1; replace hz0 := Nat.lt_of_lt_of_le hz0 b1.size)
          | (go_at_call 91; with_reducible refine Calls.mono (HN.out _ BB) ?_; rintro e w2 ⟨rfl, b2⟩; replace d0 := (b2.cell (p := ⟨wr.heap.size, 0, none⟩) hz0).trans d0; replace d1 := (b2.cell (p := ⟨wr.heap.size, 1, none⟩) hz0).trans d1; replace BB := below_trans BB b2; replace hz0 := Nat.lt_of_lt_of_le hz0 b2.size))
      all_goals go_wp2
      all_goals go_roundw
      case rel => exact ⟨k + 1, by omega, by go_num, below_trans hb BB⟩
      case measure => simp [intOf]; omega
    · go_wp2
      go_ret
      exact ⟨rfl, hb⟩
set_option maxHeartbeats 1000000 in
theorem isConfig_good (a : Option Addr) (cap : Nat) (us : Us) (hcap : us.length ≤ cap) (g : GoodU us) (room clock : Nat) (h1 : 200 ≤ room) (h2 : room ≤ 20000) (h3 : clock ≤ 1000000000000) (w : World) (h : UR a us w) :
    Calls Tryz.prog 41 #[.agg #[.slice a us.length cap, .int .i64 (room : Int), .int .i64 (clock : Int)]] w fun e w' => e = .returned (.bool true) ∧ Below w.heap.size w w' := by
  have b0 : Below w.heap.size w (w.alloc (.cells #[.slice a us.length cap, .int .i64 (room : Int), .int .i64 (clock : Int)] 32)) := (Below.refl _ _).alloc (Nat.le_refl _) _
  have A : Hid (_) := areUsers_good a cap us hcap g (w.alloc (.cells #[.slice a us.length cap, .int .i64 (room : Int), .int .i64 (clock : Int)] 32)) (h.below b0)
  have t1 : decide ((200 : Int) ≤ (room : Int)) = true := by simp; omega
  have t2 : decide ((room : Int) ≤ 20000) = true := by simp; omega
  have t3 : decide ((0 : Int) ≤ (clock : Int)) = true := by simp
  have t4 : decide ((clock : Int) ≤ 1000000000000) = true := by simp; omega
  clear h g
  go_enter Tryz.func41, Tryz.ntmps41
  go_wp2_with fail
  refine Calls.mono A.out ?_
  rintro e w1 ⟨rfl, b1⟩
  have hz := b1.size
  have m0 : w.heap.size < w1.heap.size := by simp at hz; omega
  have c1 : w1.cell? ⟨w.heap.size, 1, none⟩ = some (.int .i64 (room : Int)) := (b1.cell (p := ⟨w.heap.size, 1, none⟩) (by simp)).trans (by simp [go_sem])
  have c2 : w1.cell? ⟨w.heap.size, 2, none⟩ = some (.int .i64 (clock : Int)) := (b1.cell (p := ⟨w.heap.size, 2, none⟩) (by simp)).trans (by simp [go_sem])
  go_wp2
  go_ret
  exact ⟨rfl, below_trans b0 b1⟩
end Go.Proofs.YtbllcgibmgbnjaaGreatDoor.P
namespace Go.Proofs.YtbllcgibmgbnjaaGreatDoor.P
open Go.RowKit
open Go.Proofs.YtbllcgibmgbnjaaGreatDoor.C (ret_bool ret_int ret_str)

/-- A store that keeps nothing yet. -/
def Sto.new (users : List Tx) (room : Nat) : Sto := ⟨users, room, [], fun _ => none, fun _ _ => [], 0⟩
theorem fine_new (users : List Tx) (room : Nat) (h : room ≤ 100000) : Fine (Sto.new users room) where
  log := Nat.zero_le _
  room := h
  last := Nat.le_refl _
  bk := fun n x e => by cases e
  vs := fun b k => ⟨Nat.le_refl _, fun v hv => by cases hv⟩
theorem first_none : firstF [] = none := by
  unfold firstF textR takeR
  simp [numR, takeR]
set_option maxHeartbeats 1000000 in
theorem firstChange_none (w : World) : Calls Tryz.prog 65 #[str []] w fun e w' => e = .returned (.tuple #[.nilIface, .int .i64 0, .bool false]) ∧ Below w.heap.size w w' := by
  have C : Hid (_) := ffirst_any [] (by simp) w
  rw [first_none] at C
  unfold ffEnd at C
  go_enter Tryz.func65, Tryz.ntmps65
  go_wp2_with fail
  refine Calls.mono C.out ?_
  rintro e w1 ⟨rfl, b1⟩
  go_wp2
  refine bodyPost_ret (v := .tuple #[.nilIface, .int .i64 0, .bool false]) ?_ rfl ⟨rfl, b1⟩
  simp [results, Tryz.results65, go_sem]
/-- The roles in a new store. -/
def rNew (H : Nat) (uv : Value) : Roles := fun g => if g = H then .bks else if g = H + 1 then .vss else if g = H + 1 + 1 then .self else if uv.ownBlock = some g then .ro else .none
theorem srow.up {w : World} {B B' : Nat} {v : Value} {l : List Tx} (h : srow w B v l) (hB : B' ≤ B) : srow w B' v l := by
  obtain ⟨h1, h0 | ⟨g, cap, cur, e, hg, r⟩⟩ := h
  · exact ⟨h1, .inl h0⟩
  · exact ⟨h1, .inr ⟨g, cap, cur, e, Nat.le_trans hB hg, r⟩⟩
theorem srow.below' {w w' : World} {B : Nat} {v : Value} {l : List Tx} (h : srow w B v l) (k : Below w.heap.size w w') : srow w' B v l :=
  (Kept.of_below k).row h (fun g e => by have := (World.ownsRow.lt h g e).2; omega)
theorem srow_lt {w : World} {B : Nat} {v : Value} {l : List Tx} (h : srow w B v l) : ∀ g, v.ownBlock = some g → B ≤ g ∧ g < w.heap.size := fun g e => World.ownsRow.lt h g e
set_option maxHeartbeats 2000000 in
set_option maxRecDepth 20000 in
theorem kopen_new (ua : Option Addr) (un uc : Nat) (users : List Tx) (room : Nat) (B : Nat) (w : World) (h : srow w B (.slice ua un uc) users) :
    Calls Tryz.prog 43 #[.slice ua un uc, .int .i64 (room : Int), str []] w fun e w' => ∃ b r, e = .returned (.pointer (some ⟨b, 0, none⟩)) ∧ KS b (Sto.new users room) r w' ∧ Below w.heap.size w w' ∧ (∀ g, r g ≠ .none → w.heap.size ≤ g ∨ (Value.slice ua un uc).ownBlock = some g) := by
  have FC : Hid (_) := firstChange_none
  have hlt := fun g e => (World.ownsRow.lt h g e).2
  have K0 : Hid (KS (w.heap.size + 1 + 1) (Sto.new users room) (rNew w.heap.size (.slice ua un uc)) (((w.alloc (.map #[] 0)).alloc (.map #[] 0)).alloc (.cells #[.slice ua un uc, .int .i64 (room : Int), .slice none 0 0, .map (some w.heap.size), .map (some (w.heap.size + 1)), .int .i64 0] 125))) := by
    have B3 : Below w.heap.size w (((w.alloc (.map #[] 0)).alloc (.map #[] 0)).alloc (.cells #[.slice ua un uc, .int .i64 (room : Int), .slice none 0 0, .map (some w.heap.size), .map (some (w.heap.size + 1)), .int .i64 0] 125)) := (((Below.refl _ _).alloc (Nat.le_refl _) _).alloc (by simp) _).alloc (by simp; omega) _
    have M1 : MapIs isStr (((w.alloc (.map #[] 0)).alloc (.map #[] 0)).alloc (.cells #[.slice ua un uc, .int .i64 (room : Int), .slice none 0 0, .map (some w.heap.size), .map (some (w.heap.size + 1)), .int .i64 0] 125)) w.heap.size (fun _ => none) := ((mapIs_new isStr w).alloc _).alloc _
    have M2 : MapIs isTwo (((w.alloc (.map #[] 0)).alloc (.map #[] 0)).alloc (.cells #[.slice ua un uc, .int .i64 (room : Int), .slice none 0 0, .map (some w.heap.size), .map (some (w.heap.size + 1)), .int .i64 0] 125)) (w.heap.size + 1) (fun _ => none) := by
      have := (mapIs_new isTwo (w.alloc (.map #[] 0))).alloc (.cells #[.slice ua un uc, .int .i64 (room : Int), .slice none 0 0, .map (some w.heap.size), .map (some (w.heap.size + 1)), .int .i64 0] 125)
      rwa [show (w.alloc (.map #[] 0)).heap.size = w.heap.size + 1 by simp] at this
    refine ⟨.slice ua un uc, .slice none 0 0, w.heap.size, w.heap.size + 1, ?_⟩
    refine { c0 := by simp [go_sem], c1 := by simp [go_sem, Sto.new], c2 := by simp [go_sem], c3 := by simp [go_sem], c4 := by simp [go_sem], c5 := by simp [go_sem, Sto.new], fz := fun j => by simp [go_sem], rb := ?_, us := (h.below' B3).up (Nat.zero_le _), ur := ?_, lg := owns_nil _ _, lr := (fun g e => by cases e), bk := ⟨_, M1, fun n _ => rfl, (fun n x e => by cases e)⟩, rk := ?_, vs := ⟨_, M2, fun b k _ => rfl, fun b k e => absurd rfl e⟩, rv := ?_, dom := ?_ }
    · unfold rNew; rw [if_neg (by omega), if_neg (by omega), if_pos rfl]
    · intro g e
      have := hlt g e
      unfold rNew; rw [if_neg (by omega), if_neg (by omega), if_neg (by omega), if_pos e]
    · unfold rNew; rw [if_pos rfl]
    · unfold rNew; rw [if_neg (by omega), if_pos rfl]
    · intro g e
      have hz : (((w.alloc (.map #[] 0)).alloc (.map #[] 0)).alloc (.cells #[.slice ua un uc, .int .i64 (room : Int), .slice none 0 0, .map (some w.heap.size), .map (some (w.heap.size + 1)), .int .i64 0] 125)).heap.size = w.heap.size + 3 := by simp
      rw [hz]
      unfold rNew at e
      split at e
      · omega
      · split at e
        · omega
        · split at e
          · omega
          · split at e
            · rename_i h4; have := hlt g h4; omega
            · exact absurd rfl e
  have HR : Hid (∀ g, rNew w.heap.size (.slice ua un uc) g ≠ .none → w.heap.size ≤ g ∨ (Value.slice ua un uc).ownBlock = some g) := fun g e => by
    unfold rNew at e
    split at e
    · left; omega
    · split at e
      · left; omega
      · split at e
        · left; omega
        · split at e
          · rename_i h4; exact .inr h4
          · exact absurd rfl e
  have B3 : Below w.heap.size w (((w.alloc (.map #[] 0)).alloc (.map #[] 0)).alloc (.cells #[.slice ua un uc, .int .i64 (room : Int), .slice none 0 0, .map (some w.heap.size), .map (some (w.heap.size + 1)), .int .i64 0] 125)) := (((Below.refl _ _).alloc (Nat.le_refl _) _).alloc (by simp) _).alloc (by simp; omega) _
  clear hlt h
  have hmm : ∀ (t : TypeId) (w : World), (Instr.makeMap t none).run Tryz.prog w = .ok (.map (some w.heap.size)) (w.alloc (.map #[] 0)) := fun _ _ => rfl
  go_enter Tryz.func43, Tryz.ntmps43
  go_wp2
  generalize (((w.alloc (.map #[] 0)).alloc (.map #[] 0)).alloc (.cells #[.slice ua un uc, .int .i64 (room : Int), .slice none 0 0, .map (some w.heap.size), .map (some (w.heap.size + 1)), .int .i64 0] 125)) = W3 at *
  go_loopw [2] (fun v wr => v = str [] ∧ wr = W3) (fun _ _ => 0)
  case atStart => exact ⟨rfl, rfl⟩
  case round =>
    obtain ⟨rfl, rfl⟩ := hrel
    go_wp2_with fail
    refine Calls.mono (FC.out _) ?_
    rintro e w1 ⟨rfl, b1⟩
    go_wp2
    go_ret
    exact ⟨_, _, rfl, K0.out.below b1, below_trans B3 b1, HR.out⟩
set_option maxHeartbeats 1000000 in
theorem llog_any (a b : Nat) (us : Us) (clock : Nat) (s : Sto) (r : Roles) (w : World) (L : LS a b us clock s r w) :
    Calls Tryz.prog 21 #[.pointer (some ⟨a, 0, none⟩)] w fun e w' => e = .returned (str s.log) ∧ w = w' := by
  have C : Hid (_) := klog_any b s r w L.K
  have l2 := L.l2
  clear L
  go_enter Tryz.func21, Tryz.ntmps21
  go_wp2_with fail
  refine Calls.mono C.out ?_
  rintro e w1 ⟨rfl, rfl⟩
  go_wp2
  go_ret
  exact ⟨rfl, rfl⟩
abbrev confC (a : Option Addr) (n cap room clock : Nat) : Obj := .cells #[.slice a n cap, .int .i64 (room : Int), .int .i64 (clock : Int)] 32
set_option maxHeartbeats 4000000 in
set_option maxRecDepth 20000 in
theorem lopen_new (a : Option Addr) (cap : Nat) (us : Us) (hcap : us.length ≤ cap) (g : GoodU us) (room clock : Nat) (h1 : 200 ≤ room) (h2 : room ≤ 20000) (h3 : clock ≤ 1000000000000) (w : World) (G : GL w) (h : UR a us w) :
    Calls Tryz.prog 23 #[.agg #[.slice a us.length cap, .int .i64 (room : Int), .int .i64 (clock : Int)], str []] w fun e w' => ∃ A b r, e = .returned (.tuple #[.pointer (some ⟨A, 0, none⟩), .int .i64 0, .int .i64 0]) ∧ LS A b us clock (Sto.new (us.map (·.1)) room) r w' ∧ Below w.heap.size w w' ∧ ∀ g, r g ≠ .none → w.heap.size ≤ g := by
  have b0 : Below w.heap.size w (w.alloc (confC a us.length cap room clock)) := (Below.refl _ _).alloc (Nat.le_refl _) _
  have IC : Hid (_) := isConfig_good a cap us hcap g room clock h1 h2 h3 (w.alloc (confC a us.length cap room clock)) (h.below b0)
  have hul := g.hi
  have HB : Hid (∀ u ∈ us, u.1.length ≤ 1000 ∧ u.2.length ≤ 1000) := fun u hu => by have := userP_len (g.u u hu); omega
  have CU : Hid (∀ W, UR a us W → _) := fun W hW => copyUsers_any a cap us HB.out W hW (by omega)
  have HU : Hid (UR a us w) := h
  have HG : Hid (GL w) := G
  clear h g
  go_enter Tryz.func23, Tryz.ntmps23
  go_wp2_with fail
  refine Calls.mono IC.out ?_
  rintro e w1 ⟨rfl, b1⟩
  have B1 := below_trans b0 b1
  have hz1 := b1.size
  have m0 : w.heap.size < w1.heap.size := by simp at hz1; omega
  have c0 : w1.cell? ⟨w.heap.size, 0, none⟩ = some (.slice a us.length cap) := (b1.cell (p := ⟨w.heap.size, 0, none⟩) (by simp)).trans (by simp [go_sem])
  have c1 : w1.cell? ⟨w.heap.size, 1, none⟩ = some (.int .i64 (room : Int)) := (b1.cell (p := ⟨w.heap.size, 1, none⟩) (by simp)).trans (by simp [go_sem])
  have c2 : w1.cell? ⟨w.heap.size, 2, none⟩ = some (.int .i64 (clock : Int)) := (b1.cell (p := ⟨w.heap.size, 2, none⟩) (by simp)).trans (by simp [go_sem])
  have CU1 : Hid (_) := CU.out w1 (HU.out.below B1)
  clear IC CU hz1
  go_wp2_with fail
  refine Calls.mono CU1.out ?_
  rintro e w2 ⟨v, rfl, hrow, b2⟩
  have B2 := below_trans B1 b2
  have e1 : w2.cell? ⟨w.heap.size, 1, none⟩ = some (.int .i64 (room : Int)) := (b2.cell (p := ⟨w.heap.size, 1, none⟩) m0).trans c1
  have e2 : w2.cell? ⟨w.heap.size, 2, none⟩ = some (.int .i64 (clock : Int)) := (b2.cell (p := ⟨w.heap.size, 2, none⟩) m0).trans c2
  have m2 : w.heap.size < w2.heap.size := Nat.lt_of_lt_of_le m0 b2.size
  obtain ⟨va, vc, rfl, hvc⟩ := hrow.sl
  have hur := hrow.UR
  have hvl : ∀ g, (Value.slice va us.length vc).ownBlock = some g → g < w2.heap.size := fun g e => (World.ownsRow.lt hrow g e).2
  have HR2 : Hid (urow w2 w1.heap.size (.slice va us.length vc) us) := hrow
  have NO : Hid (∀ W, Below w2.heap.size w2 W → Calls Tryz.prog 44 #[.slice va us.length vc] W fun e w' => ∃ na nn nc, e = .returned (.slice na nn nc) ∧ srow w' W.heap.size (.slice na nn nc) (us.map (·.1)) ∧ Below W.heap.size W w') := fun W hW => by
    refine Calls.mono (namesOf_any va vc us W (hur.below hW) (by omega)) ?_
    rintro e w' ⟨v, rfl, h5, h6⟩
    have h50 := h5
    obtain ⟨_, ⟨rfl, _⟩ | ⟨g, cap, cur, rfl, _⟩⟩ := h5
    · exact ⟨_, _, _, rfl, h50, h6⟩
    · exact ⟨_, _, _, rfl, h50, h6⟩
  have KO : Hid (∀ (na : Option Addr) (nn nc : Nat) (B : Nat) (W : World), srow W B (.slice na nn nc) (us.map (·.1)) → Calls Tryz.prog 43 #[.slice na nn nc, .int .i64 (room : Int), .string ⟨#[]⟩] W fun e w' => ∃ b r, e = .returned (.pointer (some ⟨b, 0, none⟩)) ∧ KS b (Sto.new (us.map (·.1)) room) r w' ∧ Below W.heap.size W w' ∧ (∀ g, r g ≠ .none → W.heap.size ≤ g ∨ (Value.slice na nn nc).ownBlock = some g)) := fun na nn nc B W hW => kopen_new na nn nc _ room B W hW
  clear c0 c1 c2 CU1 hrow hur b1 b2 b0
  have BB : Below w2.heap.size w2 w2.drew := below_drew w2
  have d1 : w2.drew.cell? ⟨w.heap.size, 1, none⟩ = some (.int .i64 (room : Int)) := e1
  have d2 : w2.drew.cell? ⟨w.heap.size, 2, none⟩ = some (.int .i64 (clock : Int)) := e2
  go_wp2_with fail
  go_region_held3 (fun w' => w'.cell? ⟨w.heap.size, 1, none⟩ = some (.int .i64 (room : Int)) ∧ w'.cell? ⟨w.heap.size, 2, none⟩ = some (.int .i64 (clock : Int))) (first | exact ⟨d1, d2⟩ | exact ⟨cell_alloc d1 _, cell_alloc d2 _⟩)
    (first
      | (go_at_call 44; with_reducible refine Calls.mono (NO.out _ BB) ?_; rintro e w3 ⟨na, nn, nc, rfl, hsr, b3⟩; replace d1 := (b3.cell (p := ⟨w.heap.size, 1, none⟩) (Nat.lt_of_lt_of_le m2 BB.size)).trans d1; replace d2 := (b3.cell (p := ⟨w.heap.size, 2, none⟩) (Nat.lt_of_lt_of_le m2 BB.size)).trans d2; have hb3s := BB.size; replace BB := below_trans BB b3)
      | (go_at_call 43; with_reducible refine Calls.mono (KO.out na nn nc _ w3 hsr) ?_; rintro e w4 ⟨b, r, rfl, hks, b4, hr4⟩; have hlr := srow_lt hsr; replace d1 := (b4.cell (p := ⟨w.heap.size, 1, none⟩) (Nat.lt_of_lt_of_le m2 BB.size)).trans d1; replace d2 := (b4.cell (p := ⟨w.heap.size, 2, none⟩) (Nat.lt_of_lt_of_le m2 BB.size)).trans d2; have hb4s := BB.size; replace BB := below_trans BB b4))
  rename_i hHeld
  clear hHeld
  have hall : ∀ g, r g ≠ .none → w2.heap.size ≤ g := fun g e => by
    rcases hr4 g e with h | h
    · omega
    · exact (hlr g h).1
  have hnone : ∀ g, g < w2.heap.size → r g = .none := fun g hg => by
    cases e : r g with
    | none => rfl
    | _ => have := hall g (by rw [e]; simp); omega
  have B5 : Below w4.heap.size w4 (w4.alloc (.cells #[.slice va us.length vc, .int .i64 (clock : Int), .pointer (some ⟨b, 0, none⟩)] 89)) := (Below.refl _ _).alloc (Nat.le_refl _) _
  have BE := below_trans BB B5
  have hs2 := B2.size
  have hng := HG.out.sz
  have hs5 := BE.size
  have hr4n : r w4.heap.size = .none := by
    cases e : r w4.heap.size with
    | none => rfl
    | _ => have := hks.dom w4.heap.size (by rw [e]; simp); omega
  have LSF : LS w4.heap.size b us clock (Sto.new (us.map (·.1)) room) r (w4.alloc (.cells #[.slice va us.length vc, .int .i64 (clock : Int), .pointer (some ⟨b, 0, none⟩)] 89)) := {
    l0 := ⟨va, vc, by simp [go_sem], (HR2.out.below BE).UR, fun p hp => by
      have hq := hvl p.block (by rw [hp]; rfl)
      exact ⟨hnone _ hq, by omega⟩⟩
    l1 := by simp [go_sem]
    l2 := by simp [go_sem]
    ra := hr4n
    al := by simp
    K := hks.below B5
    sz := by omega
    rN := fun g hg => hnone g (by omega)
    F := fine_new _ _ (by omega)
    hu := by simp [Sto.new]; omega
    ul := by omega
    un := fun u hu => by have := HB.out u hu; omega
    cl := h3 }
  have LG : Hid (_) := llog_any _ _ _ _ _ _ _ LSF
  have FIN : Hid (LS w4.heap.size b us clock (Sto.new (us.map (·.1)) room) r (w4.alloc (.cells #[.slice va us.length vc, .int .i64 (clock : Int), .pointer (some ⟨b, 0, none⟩)] 89)) ∧ Below w.heap.size w (w4.alloc (.cells #[.slice va us.length vc, .int .i64 (clock : Int), .pointer (some ⟨b, 0, none⟩)] 89)) ∧ ∀ g, r g ≠ .none → w.heap.size ≤ g) := ⟨LSF, below_trans B2 BE, fun g e => Nat.le_trans hs2 (hall g e)⟩
  rw [show (Sto.new (us.map (·.1)) room).log = [] from rfl] at LG
  clear LSF KO NO hks hr4 hlr hsr b3 b4 hall hnone BB B5 BE HR2 hvl
  go_wp2_with fail
  refine Calls.mono LG.out ?_
  rintro e w5 ⟨rfl, rfl⟩
  go_wp2
  refine bodyPost_ret (v := .tuple #[.pointer (some ⟨w4.heap.size, 0, none⟩), .int .i64 0, .int .i64 0]) ?_ rfl ⟨_, _, _, rfl, FIN.out.1, FIN.out.2.1, FIN.out.2.2⟩
  simp [results, Tryz.results23, go_sem]
set_option maxHeartbeats 1000000 in
theorem lnew_any (a : Option Addr) (cap : Nat) (us : Us) (hcap : us.length ≤ cap) (g : GoodU us) (room clock : Nat) (h1 : 200 ≤ room) (h2 : room ≤ 20000) (h3 : clock ≤ 1000000000000) (w : World) (G : GL w) (h : UR a us w) :
    Calls Tryz.prog 11 #[.agg #[.slice a us.length cap, .int .i64 (room : Int), .int .i64 (clock : Int)]] w fun e w' => ∃ A b r, e = .returned (.tuple #[.pointer (some ⟨A, 0, none⟩), .int .i64 0]) ∧ LS A b us clock (Sto.new (us.map (·.1)) room) r w' ∧ Below w.heap.size w w' ∧ ∀ g, r g ≠ .none → w.heap.size ≤ g := by
  have b0 : Below w.heap.size w (w.alloc (confC a us.length cap room clock)) := (Below.refl _ _).alloc (Nat.le_refl _) _
  have O : Hid (Calls Tryz.prog 23 #[.agg #[.slice a us.length cap, .int .i64 (room : Int), .int .i64 (clock : Int)], .string ⟨#[]⟩] (w.alloc (confC a us.length cap room clock)) fun e w' => ∃ A b r, e = .returned (.tuple #[.pointer (some ⟨A, 0, none⟩), .int .i64 0, .int .i64 0]) ∧ LS A b us clock (Sto.new (us.map (·.1)) room) r w' ∧ Below (w.alloc (confC a us.length cap room clock)).heap.size (w.alloc (confC a us.length cap room clock)) w' ∧ ∀ g, r g ≠ .none → (w.alloc (confC a us.length cap room clock)).heap.size ≤ g) := lopen_new a cap us hcap g room clock h1 h2 h3 (w.alloc (confC a us.length cap room clock)) (G.call b0) (h.below b0)
  have hz : w.heap.size ≤ (w.alloc (confC a us.length cap room clock)).heap.size := b0.size
  go_enter Tryz.func11, Tryz.ntmps11
  go_wp2_with fail
  refine Calls.mono O.out ?_
  rintro e w1 ⟨A, b, r, rfl, L, b1, hr⟩
  go_wp2
  go_ret2
  exact ⟨A, b, r, rfl, L, below_trans b0 b1, fun g e => Nat.le_trans hz (hr g e)⟩
end Go.Proofs.YtbllcgibmgbnjaaGreatDoor.P
namespace Go.Proofs.YtbllcgibmgbnjaaGreatDoor.P
open Go.Proofs.YtbllcgibmgbnjaaGreatDoor.C (enc dec dec_enc enc1 plainB enc_cons enc_nil enc_len hexD)

abbrev tBox : Tx := [109, 121, 98, 111, 120]
abbrev tMe : Tx := [109, 101]
theorem row_mk : rowP tPUT false [] = some ⟨tPUT, false, [], [], [], 0, 0, [], false⟩ := rfl
theorem row_put : rowP tPUT true [] = some ⟨tPUT, true, [], [], [], 0, 5, sPut, true⟩ := rfl
theorem row_get : rowP tGET true [] = some ⟨tGET, true, tVersion, [], [], 0, 6, sGet, false⟩ := rfl
theorem bkt_free {b : Tx} (hb : bktP b = true) {c : UInt8} (hc : bktB c = false) : c ∉ b := fun e => by
  unfold bktP at hb
  rw [Bool.and_eq_true] at hb
  have := List.all_eq_true.1 hb.2 c e
  rw [this] at hc; cases hc
theorem path_box {b : Tx} (hb : bktP b = true) : pathP (47 :: b) = (b, [], false) := by
  unfold pathP
  rw [show Lib.trimPrefix (47 :: b) [47] = b by simp [Lib.trimPrefix, Lib.hasPrefix, List.isPrefixOf]]
  exact cutc_miss (bkt_free hb (by decide))
theorem path_key {b : Tx} (hb : bktP b = true) (k : Tx) : pathP (47 :: (b ++ 47 :: k)) = (b, k, true) := by
  unfold pathP
  rw [show Lib.trimPrefix (47 :: (b ++ 47 :: k)) [47] = b ++ 47 :: k by simp [Lib.trimPrefix, Lib.hasPrefix, List.isPrefixOf]]
  exact cutc_hit k (bkt_free hb (by decide))
theorem ask_mk {b : Tx} {q : Hs} (hb : bktP b = true) (hq : xOut q = []) : askP tPUT (47 :: b) q [] = some ⟨0, [], b, [], [], 0, [], [], 10⟩ := by
  unfold askP ask0
  rw [path_box hb, hq, row_mk]
  simp only
  rw [if_pos ⟨hb, .inl trivial, .inr trivial⟩]
  rfl
theorem ask_put {b k y : Tx} {q : Hs} (hb : bktP b = true) (hk : keyP k = true) (hq : xOut q = []) : askP tPUT (47 :: (b ++ 47 :: k)) q y = some ⟨5, sPut, b, k, y, 0, [], [], 10⟩ := by
  unfold askP ask0
  rw [path_key hb, hq, row_put]
  simp only
  rw [if_pos ⟨hb, .inr hk, .inl trivial⟩]
  rfl
theorem ask_get {b k : Tx} {q : Hs} (hb : bktP b = true) (hk : keyP k = true) (hq : xOut q = []) : askP tGET (47 :: (b ++ 47 :: k)) q [] = some ⟨6, sGet, b, k, [], 0, [], [], 10⟩ := by
  unfold askP ask0
  rw [path_key hb, hq, row_get]
  simp only
  rw [if_pos ⟨hb, .inr hk, .inr trivial⟩]
  rfl
theorem do_err {us : Us} {clock : Nat} {s : Sto} {t : Tx} {n : Nat} (h : readP us clock t = .error n) : doP us clock s t = (respT n [] [], s) := by
  unfold doP; rw [resp_err h]
theorem do_ok {us : Us} {clock : Nat} {s : Sto} {t u : Tx} {q : AskP} (h : readP us clock t = .ok (u, q)) (k : mayP s u q = 200) : doP us clock s t = (respT (serveP s u q).1 (serveP s u q).2.1 (serveP s u q).2.2.1, (serveP s u q).2.2.2) := by
  unfold doP; rw [resp_yes h k]
/-! ### What is done -/
theorem frame_len (c : Chg) (h : c.text.length ≤ 1000) : (frameT c.text).length ≤ 1006 := by simp [frameT, longT, numT, bigL_len]; omega
theorem text_mk {b o : Tx} (h1 : b.length ≤ 20) (h2 : o.length ≤ 12) : (Chg.mk b o).text.length ≤ 1000 := by simp [Chg.text, shortT, bigL_len]; omega
theorem text_put {b k y : Tx} (h1 : b.length ≤ 20) (h2 : k.length ≤ 40) (h3 : y.length ≤ 300) : (Chg.put b k y).text.length ≤ 1000 := by simp [Chg.text, shortT, longT, bigL_len]; omega
theorem bkt_len {b : Tx} (h : bktP b = true) : b.length ≤ 20 := by
  unfold bktP at h; rw [Bool.and_eq_true] at h; exact (of_decide_eq_true h.1).2
theorem key_len {k : Tx} (h : keyP k = true) : k.length ≤ 40 := by
  unfold keyP at h; rw [Bool.and_eq_true] at h; exact (of_decide_eq_true h.1).2
theorem done_mk {s : Sto} {b o : Tx} (hb : bktP b = true) (hu : s.users.contains o = true) (hn : s.bk b = none) (hl : s.log.length + (frameT (Chg.mk b o).text).length ≤ s.room) :
    s.done (.mk b o) = (200, { s.setBk b ⟨o, [], []⟩ with log := s.log ++ frameT (Chg.mk b o).text }) := by
  have e : s.begin (.mk b o) = .ok (s.setBk b ⟨o, [], []⟩) := by
    simp only [Sto.begin]; rw [if_pos ⟨hb, hu⟩, hn]
  unfold Sto.done; rw [e]; simp only; rw [if_pos hl]
theorem done_put {s : Sto} {b k y : Tx} {x : Bkt} (hk : keyP k = true) (hy : y.length ≤ 300) (hx : s.bk b = some x) (hl : s.log.length + (frameT (Chg.put b k y).text).length ≤ s.room) :
    s.done (.put b k y) = (200, { s.add b k false y with log := s.log ++ frameT (Chg.put b k y).text }) := by
  have e : s.begin (.put b k y) = .ok (s.add b k false y) := by
    simp only [Sto.begin]; rw [if_neg (by omega), hx]; simp only; rw [if_pos hk]
  unfold Sto.done; rw [e]; simp only; rw [if_pos hl]
theorem says_none (u a k : Tx) : saysP [] u a k = 0 := by simp [saysP]
theorem may_owner {s : Sto} {u a b k p : Tx} (h : s.bk b = some ⟨u, p, []⟩) : s.may u a b k = 200 := by
  unfold Sto.may; rw [h]; simp only; rw [says_none, if_neg (by simp)]
theorem version_last {s : Sto} {b k y : Tx} {n : Nat} {l : List Ver} (h : s.vs b k = l ++ [⟨n, false, y⟩]) : s.version b k 0 = some ⟨n, false, y⟩ := by
  unfold Sto.version; rw [if_pos rfl, h]; simp
theorem fineT : respT 200 [] [] = [50, 48, 48, 32, 79, 75, 10, 10] := by
  unfold respT; rw [if_pos rfl, told200]; rfl
theorem told403 : toldT 403 = [52, 48, 51, 32, 78, 111] := by
  unfold toldT
  rw [itoa_nat, R.dd_big (by decide), R.dd_big (by decide), R.dd_small (by decide)]
  rfl
theorem deniedT : respT 403 [] [] = [52, 48, 51, 32, 78, 111, 10, 10] := by
  unfold respT; rw [if_neg (by decide), told403]; rfl
/-- Made, put, got. -/
theorem three_ok {us : Us} {clock : Nat} {b k y r1 r2 r3 : Tx} (hb : bktP b = true) (hk : keyP k = true) (hy : y.length ≤ 300)
    (h1 : readP us clock r1 = .ok (tMe, ⟨0, [], b, [], [], 0, [], [], 10⟩)) (h2 : readP us clock r2 = .ok (tMe, ⟨5, sPut, b, k, y, 0, [], [], 10⟩)) (h3 : readP us clock r3 = .ok (tMe, ⟨6, sGet, b, k, [], 0, [], [], 10⟩)) :
    (doP us clock (Sto.new [tMe] 20000) r1).1 = respT 200 [] [] ∧
    (doP us clock (doP us clock (Sto.new [tMe] 20000) r1).2 r2).1 = respT 200 [(tVersion, Lib.itoa ((1 : Nat) : Int))] [] ∧
    (doP us clock (doP us clock (doP us clock (Sto.new [tMe] 20000) r1).2 r2).2 r3).1 = respT 200 [(tVersion, Lib.itoa ((1 : Nat) : Int)), (tLength, lenT y)] y := by
  have lb := bkt_len hb
  have lk := key_len hk
  have f1 := frame_len (.mk b tMe) (text_mk lb (by simp))
  have f2 := frame_len (.put b k y) (text_put lb lk hy)
  have d1 := done_mk (s := Sto.new [tMe] 20000) (o := tMe) hb (by rfl) rfl (by show 0 + _ ≤ 20000; omega)
  have e1 := do_ok (s := Sto.new [tMe] 20000) h1 rfl
  have sv1 : serveP (Sto.new [tMe] 20000) tMe ⟨0, [], b, [], [], 0, [], [], 10⟩ = (200, [], [], { (Sto.new [tMe] 20000).setBk b ⟨tMe, [], []⟩ with log := (Sto.new [tMe] 20000).log ++ frameT (Chg.mk b tMe).text }) := by
    unfold serveP; rw [if_pos rfl]; simp only; rw [d1]
  rw [sv1] at e1
  simp only at e1
  rw [e1]
  refine ⟨rfl, ?_⟩
  simp only
  generalize hs1 : ({ (Sto.new [tMe] 20000).setBk b ⟨tMe, [], []⟩ with log := (Sto.new [tMe] 20000).log ++ frameT (Chg.mk b tMe).text } : Sto) = s1
  have b1 : s1.bk b = some ⟨tMe, [], []⟩ := by rw [← hs1]; simp [Sto.setBk]
  have r1' : s1.room = 20000 := by rw [← hs1]; rfl
  have l1 : s1.log.length ≤ 1006 := by rw [← hs1]; show ([] ++ _ : Tx).length ≤ _; simpa using f1
  have v1 : s1.vs b k = [] := by rw [← hs1]; rfl
  have n1 : s1.last = 0 := by rw [← hs1]; rfl
  clear hs1 e1 sv1 d1
  have d2 := done_put (s := s1) hk hy b1 (by omega)
  have e2 := do_ok (s := s1) h2 (by unfold mayP; rw [if_neg (by simp)]; exact may_owner b1)
  have sv2 : serveP s1 tMe ⟨5, sPut, b, k, y, 0, [], [], 10⟩ = (200, [(tVersion, Lib.itoa ((1 : Nat) : Int))], [], { s1.add b k false y with log := s1.log ++ frameT (Chg.put b k y).text }) := by
    unfold serveP; simp only; rw [if_neg (by decide), if_neg (by decide), if_neg (by decide), if_neg (by decide), if_pos trivial, d2]
    simp only [Sto.add]; rw [n1]
  rw [sv2] at e2
  simp only at e2
  rw [e2]
  refine ⟨rfl, ?_⟩
  simp only
  generalize hs2 : ({ s1.add b k false y with log := s1.log ++ frameT (Chg.put b k y).text } : Sto) = s2
  have b2 : s2.bk b = some ⟨tMe, [], []⟩ := by rw [← hs2]; exact b1
  have v2 : s2.vs b k = [] ++ [⟨1, false, y⟩] := by rw [← hs2]; simp [Sto.add, Sto.setVs, v1, n1]
  have e3 := do_ok (s := s2) h3 (by unfold mayP; rw [if_neg (by simp)]; exact may_owner b2)
  rw [e3]
  have sv3 : serveP s2 tMe ⟨6, sGet, b, k, [], 0, [], [], 10⟩ = (200, [(tVersion, Lib.itoa ((1 : Nat) : Int)), (tLength, lenT y)], y, s2) := by
    unfold serveP; simp only; rw [if_neg (by decide), if_neg (by decide), if_neg (by decide), if_neg (by decide), if_neg (by decide), if_pos trivial]
    unfold getP; simp only; rw [version_last v2]
  rw [sv3]
theorem noList_of {us : Us} {clock : Nat} {s : Sto} {r u : Tx} {q : AskP} (h : readP us clock r = .ok (u, q)) (k : q.kind ≠ 4) : noList us clock s r := fun p hp _ => by
  rw [h] at hp; cases hp; exact k
theorem noList_err {us : Us} {clock : Nat} {s : Sto} {r : Tx} {n : Nat} (h : readP us clock r = .error n) : noList us clock s r := fun p hp _ => by
  rw [h] at hp; cases hp
theorem has_me {secret : Tx} (h1 : secret ≠ []) (h2 : secret.length ≤ 40) : Has [(tMe, secret)] tMe secret :=
  ⟨by simp, fun u hu e => by simp at hu; rw [hu], by decide, by decide, by decide, h1, h2⟩
theorem good_me {secret : Tx} (h1 : secret ≠ []) (h2 : secret.length ≤ 40) : GoodU [(tMe, secret)] where
  lo := by simp
  hi := by simp
  u := fun x hx => by
    rw [List.mem_singleton] at hx; subst hx
    unfold userP
    have : 1 ≤ secret.length := List.length_pos_iff.2 h1
    simp [this, h2, nameP, lcB]
  d := fun k h => by
    have : k = 0 := by simp at h; omega
    subst this; rfl
theorem key_show (s : Tx) : keyP (showT s 40) = true := by
  unfold showT
  split
  · decide
  · rename_i h
    unfold keyP
    rw [Bool.and_eq_true]
    constructor
    · have : 0 < (s.take 40).length := List.length_pos_iff.2 h
      simp only [List.length_map]
      refine decide_eq_true ⟨by omega, by simp; omega⟩
    · rw [List.all_eq_true]
      intro c hc
      obtain ⟨x, _, rfl⟩ := List.mem_map.1 hc
      have := showC_ok x
      unfold keyB1; simp; omega
end Go.Proofs.YtbllcgibmgbnjaaGreatDoor.P
namespace Go.Proofs.YtbllcgibmgbnjaaGreatDoor.P
open Go.RowKit
open Go.Proofs.YtbllcgibmgbnjaaGreatDoor.C (ret_bool ret_int ret_str enc enc_len)

/-- The secret as it is used. -/
def secT (s : Tx) : Tx := if s.take 40 = [] then [115] else s.take 40
theorem secT_ok (s : Tx) : secT s ≠ [] ∧ (secT s).length ≤ 40 := by
  unfold secT
  split
  · exact ⟨by simp, by simp⟩
  · rename_i h; exact ⟨h, by simp; omega⟩
abbrev tMyBox : Tx := [47, 109, 121, 98, 111, 120]
theorem enc_box : enc true (47 :: tBox) = tMyBox := by decide
theorem enc_path (k : Tx) : enc true (47 :: (tBox ++ 47 :: k)) = [47, 109, 121, 98, 111, 120, 47] ++ enc true k := by
  rw [show (47 :: (tBox ++ 47 :: k) : Tx) = [47, 109, 121, 98, 111, 120, 47] ++ k by simp, enc_app]
  congr 1
/-- What the three requests are. -/
def reqs (se : Tx) (t f : Nat) (query : Bool) (k y : Tx) : Tx × Tx × Tx :=
  if query = true then (queryT tMe se t f tPUT (enc true (47 :: tBox)) [], queryT tMe se t f tPUT (enc true (47 :: (tBox ++ 47 :: k))) y, queryT tMe se t f tGET (enc true (47 :: (tBox ++ 47 :: k))) [])
  else (headT tMe se t tPUT (enc true (47 :: tBox)) [], headT tMe se t tPUT (enc true (47 :: (tBox ++ 47 :: k))) y, headT tMe se t tGET (enc true (47 :: (tBox ++ 47 :: k))) [])
def rightP (now t f : Nat) (query : Bool) : Bool := if query = true then decide (t ≤ now + 900) && decide (now < t + f) else decide (t ≤ now + 900) && decide (now ≤ t + 900)
theorem xq_out (user mark : Tx) (t f : Nat) : xOut (quH user t f ++ [(xSig, mark)]) = [] := by simp [quH, xP, List.isPrefixOf]
/-- What they answer. -/
theorem signed_says (se : Tx) (now t f : Nat) (query : Bool) (k y : Tx) (h1 : se ≠ []) (h2 : se.length ≤ 40) (ht : t ≤ 1000000000000) (hf1 : 1 ≤ f) (hf2 : f ≤ 604800) (hk : keyP k = true) (hy : y.length ≤ 300) :
    (rightP now t f query = true → readP [(tMe, se)] now (reqs se t f query k y).1 = .ok (tMe, ⟨0, [], tBox, [], [], 0, [], [], 10⟩) ∧ readP [(tMe, se)] now (reqs se t f query k y).2.1 = .ok (tMe, ⟨5, sPut, tBox, k, y, 0, [], [], 10⟩) ∧ readP [(tMe, se)] now (reqs se t f query k y).2.2 = .ok (tMe, ⟨6, sGet, tBox, k, [], 0, [], [], 10⟩)) ∧
    (rightP now t f query = false → readP [(tMe, se)] now (reqs se t f query k y).1 = .error 403 ∧ readP [(tMe, se)] now (reqs se t f query k y).2.1 = .error 403 ∧ readP [(tMe, se)] now (reqs se t f query k y).2.2 = .error 403) := by
  have H := has_me h1 h2
  have hb : bktP tBox = true := by decide
  have lk := key_len hk
  have el1 : (enc true (47 :: tBox)).length ≤ 1000 := by rw [enc_box]; decide
  have el2 : (enc true (47 :: (tBox ++ 47 :: k))).length ≤ 1000 := by rw [enc_path]; have := (enc_len true k).2; simp; omega
  have hu : ∀ c ∈ tMe, C.plainB (c.toNat : Int) false = true := by decide
  have m1 : R.isMethod tPUT = true := by decide
  have m2 : R.isMethod tGET = true := by decide
  cases query with
  | true =>
    have q1 := read_query (clock := now) (p := tBox) (y := []) H hu m1 (by decide) el1 (by simp) ht hf1 hf2
    have q2 := read_query (clock := now) (p := tBox ++ 47 :: k) (y := y) H hu m1 (by decide) el2 hy ht hf1 hf2
    have q3 := read_query (clock := now) (p := tBox ++ 47 :: k) (y := []) H hu m2 (by decide) el2 (by simp) ht hf1 hf2
    unfold askR at q1 q2 q3
    rw [ask_mk hb (xq_out _ _ _ _)] at q1
    rw [ask_put hb hk (xq_out _ _ _ _)] at q2
    rw [ask_get hb hk (xq_out _ _ _ _)] at q3
    simp only [reqs, rightP, if_true]
    constructor
    · intro h
      rw [Bool.and_eq_true, decide_eq_true_eq, decide_eq_true_eq] at h
      rw [q1, q2, q3, if_neg (by omega), if_neg (by omega), if_neg (by omega)]
      exact ⟨rfl, rfl, rfl⟩
    · intro h
      rw [Bool.and_eq_false_iff, decide_eq_false_iff_not, decide_eq_false_iff_not] at h
      rw [q1, q2, q3, if_pos (by omega), if_pos (by omega), if_pos (by omega)]
      exact ⟨rfl, rfl, rfl⟩
  | false =>
    have q1 := read_head (clock := now) (y := []) H (line_plain (p := tBox) m1) rfl (by decide) el1 (by simp) ht
    have q2 := read_head (clock := now) (y := y) H (line_plain (p := tBox ++ 47 :: k) m1) rfl (by decide) el2 hy ht
    have q3 := read_head (clock := now) (y := []) H (line_plain (p := tBox ++ 47 :: k) m2) rfl (by decide) el2 (by simp) ht
    unfold askR at q1 q2 q3
    rw [ask_mk hb rfl] at q1
    rw [ask_put hb hk rfl] at q2
    rw [ask_get hb hk rfl] at q3
    simp only [reqs, rightP, Bool.false_eq_true, if_false]
    constructor
    · intro h
      rw [Bool.and_eq_true, decide_eq_true_eq, decide_eq_true_eq] at h
      rw [q1, q2, q3, if_neg (by omega), if_neg (by omega), if_neg (by omega)]
      exact ⟨rfl, rfl, rfl⟩
    · intro h
      rw [Bool.and_eq_false_iff, decide_eq_false_iff_not, decide_eq_false_iff_not] at h
      rw [q1, q2, q3, if_pos (by omega), if_pos (by omega), if_pos (by omega)]
      exact ⟨rfl, rfl, rfl⟩
end Go.Proofs.YtbllcgibmgbnjaaGreatDoor.P
namespace Go.Proofs.YtbllcgibmgbnjaaGreatDoor.P
open Go.RowKit
open Go.Proofs.YtbllcgibmgbnjaaGreatDoor.C (ret_bool ret_int ret_str enc enc_len)

set_option maxHeartbeats 1000000 in
theorem lenc_any (l : Tx) (p : Bool) (hl : l.length ≤ 1000000000) (w : World) :
    Calls Tryz.prog 12 #[str l, .bool p] w fun e w' => e = .returned (str (enc p l)) ∧ Below w.heap.size w w' := by
  have C : Hid (_) := R.encode_r l p w hl
  go_enter Tryz.func12, Tryz.ntmps12
  go_wp2_with fail
  refine Calls.mono C.out ?_
  rintro e w1 ⟨rfl, b1⟩
  go_wp2
  go_ret
  exact ⟨rfl, b1⟩
theorem read_len {us : Us} {clock : Nat} {t : Tx} (h : (∃ p, readP us clock t = .ok p) ∨ readP us clock t = .error 403) : t.length ≤ 2000 := by
  rcases Nat.lt_or_ge 2000 t.length with hl | hl
  · exfalso
    have e : readP us clock t = .error 413 := by
      unfold readP R.parseOf; rw [if_pos hl]; rfl
    rcases h with ⟨p, h⟩ | h
    · rw [e] at h; cases h
    · rw [e] at h; cases h
  · exact hl
set_option maxHeartbeats 8000000 in
set_option maxRecDepth 20000 in
theorem slaw_any (secret name body : Tx) (clock ahead long : Int) (query : Bool) (w : World) (G : GL w) (l1 : secret.length ≤ 140737488355328) (l2 : name.length ≤ 140737488355328) (l3 : body.length ≤ 140737488355328)
    (i1 : -9223372036854775808 ≤ clock ∧ clock ≤ 9223372036854775807) (i2 : -9223372036854775808 ≤ ahead ∧ ahead ≤ 9223372036854775807) (i3 : -9223372036854775808 ≤ long ∧ long ≤ 9223372036854775807) :
    Calls Tryz.prog 3 #[str secret, .int .i64 clock, .int .i64 ahead, .int .i64 long, .bool query, str name, str body] w fun e w' => e = .returned (.bool true) ∧ Below w.heap.size w w' := by
  have CT : Hid (_) := cutK_any secret 40 (by omega) (by omega) w
  have CB : Hid (∀ w, Calls Tryz.prog 9 #[str body, .int .i64 300] w fun e w' => e = .returned (str (body.take 300)) ∧ w = w') := fun w => cutK_any body 300 (by omega) (by omega) w
  have P1 : Hid (∀ w, Calls Tryz.prog 10 #[.int .i64 clock, .int .i64 999999996000] w fun e w' => e = .returned (.int .i64 (pickP clock 999999996000 : Int)) ∧ w = w') := fun w => pick_any clock i1 999999996000 (by omega) (by omega) w
  have P2 : Hid (∀ w, Calls Tryz.prog 10 #[.int .i64 ahead, .int .i64 4001] w fun e w' => e = .returned (.int .i64 (pickP ahead 4001 : Int)) ∧ w = w') := fun w => pick_any ahead i2 4001 (by omega) (by omega) w
  have P3 : Hid (∀ w, Calls Tryz.prog 10 #[.int .i64 long, .int .i64 3000] w fun e w' => e = .returned (.int .i64 (pickP long 3000 : Int)) ∧ w = w') := fun w => pick_any long i3 3000 (by omega) (by omega) w
  have b1 := pickP_lt clock (n := 999999996000) (by omega)
  have b2 := pickP_lt ahead (n := 4001) (by omega)
  have b3 := pickP_lt long (n := 3000) (by omega)
  have hy : (body.take 300).length ≤ 300 := by simp; omega
  have SH : Hid (∀ w, Calls Tryz.prog 13 #[str name, .int .i64 40] w fun e w' => e = .returned (str (showT name 40)) ∧ Below w.heap.size w w') := fun w => shown_any name 40 (by omega) (by omega) w
  have hk := key_show name
  have lk := key_len hk
  have hse := secT_ok secret
  generalize showT name 40 = k at *
  generalize pickP clock 999999996000 = c1 at *
  generalize pickP ahead 4001 = a1 at *
  generalize pickP long 3000 = f1 at *
  generalize body.take 300 = y at *
  have HS : Hid (secT secret = if secret.take 40 = [] then [115] else secret.take 40) := rfl
  generalize hs0 : secret.take 40 = s0 at *
  clear hs0
  generalize secT secret = se at *
  have HSAY : Hid (_) := signed_says se (2000 + c1) (c1 + a1) (1 + f1) query k y hse.1 hse.2 (by omega) (by omega) (by omega) hk hy
  have EN : Hid (∀ w, Calls Tryz.prog 12 #[str k, .bool true] w fun e w' => e = .returned (str (enc true k)) ∧ Below w.heap.size w w') := fun w => lenc_any k true (by omega) w
  have ele := (enc_len true k).2
  have HP : Hid (enc true (47 :: (tBox ++ 47 :: k)) = [47, 109, 121, 98, 111, 120, 47] ++ enc true k) := enc_path k
  have el2 : (enc true (47 :: (tBox ++ 47 :: k))).length ≤ 1000 := by rw [HP.out]; simp; omega
  go_enter Tryz.func3, Tryz.ntmps3
  go_upto_if 32 with (go_at_call 9; refine Calls.mono CT.out ?_; rintro e w1 ⟨rfl, rfl⟩)
  clear CT
  go_cut [0] from 31 to 32 (fun v wx => v = str se ∧ wx = w)
  case first =>
    cases s0 with
    | nil =>
      have e : se = [115] := by rw [HS.out]; rfl
      go_wp2
      go_meet
      exact ⟨by rw [e], rfl⟩
    | cons c r =>
      have e : se = c :: r := by rw [HS.out]; rfl
      go_wp2
      go_meet
      exact ⟨by rw [e], rfl⟩
  case rest =>
    obtain ⟨rfl, rfl⟩ := hcut
    generalize hwc0 : wc = wc0 at *
    have HW0 : Hid (wc = wc0) := hwc0
    clear hwc0
    have n1 : IntKind.i64.wrap (2000 + (c1 : Int)) = 2000 + (c1 : Int) := by unfold IntKind.wrap; simp [IntKind.bits, IntKind.signed]; omega
    have n2 : IntKind.i64.wrap (2000 + (c1 : Int) + (a1 : Int)) = 2000 + (c1 : Int) + (a1 : Int) := by unfold IntKind.wrap; simp [IntKind.bits, IntKind.signed]; omega
    have n3 : IntKind.i64.wrap (2000 + (c1 : Int) + (a1 : Int) - 2000) = 2000 + (c1 : Int) + (a1 : Int) - 2000 := by unfold IntKind.wrap; simp [IntKind.bits, IntKind.signed]; omega
    have n4 : IntKind.i64.wrap (1 + (f1 : Int)) = 1 + (f1 : Int) := by unfold IntKind.wrap; simp [IntKind.bits, IntKind.signed]; omega
    have hb0 : Below wc0.heap.size wc0 (wc0.alloc (.cells #[str tMe, str se] 29)) := (Below.refl _ _).alloc (Nat.le_refl _) _
    have hur : UR (some ⟨wc0.heap.size, 0, none⟩) [(tMe, se)] (wc0.alloc (.cells #[str tMe, str se] 29)) := ⟨fun i hi => by
      have : i = 0 := by simp at hi; omega
      subst this
      exact ⟨wc0.heap.size, 0, rfl, by simp, by simp [go_sem], by simp [go_sem]⟩⟩
    have NW : Hid (∀ x : Int, x = ((2000 + c1 : Nat) : Int) → Calls Tryz.prog 11 #[.agg #[.slice (some ⟨wc0.heap.size, 0, none⟩) 1 1, .int .i64 20000, .int .i64 x]] (wc0.alloc (.cells #[str tMe, str se] 29)) fun e w' => ∃ A b r, e = .returned (.tuple #[.pointer (some ⟨A, 0, none⟩), .int .i64 0]) ∧ LS A b [(tMe, se)] (2000 + c1) (Sto.new [tMe] 20000) r w' ∧ Below (wc0.alloc (.cells #[str tMe, str se] 29)).heap.size (wc0.alloc (.cells #[str tMe, str se] 29)) w' ∧ ∀ g, r g ≠ .none → (wc0.alloc (.cells #[str tMe, str se] 29)).heap.size ≤ g) := fun x hx => by
      subst hx
      exact lnew_any (some ⟨wc0.heap.size, 0, none⟩) 1 [(tMe, se)] (by simp) (good_me hse.1 hse.2) 20000 (2000 + c1) (by omega) (by omega) (by omega) _ (G.call hb0) hur
    clear hur
    go_wp2_with fail
    refine Calls.mono (P1.out _) ?_
    rintro e w' ⟨rfl, rfl⟩
    go_wp2_with fail
    refine Calls.mono (P2.out _) ?_
    rintro e w' ⟨rfl, rfl⟩
    go_wp2_with fail
    refine Calls.mono (P3.out _) ?_
    rintro e w' ⟨rfl, rfl⟩
    go_wp2_with fail
    refine Calls.mono (CB.out _) ?_
    rintro e w' ⟨rfl, rfl⟩
    clear P1 P2 P3 CB
    go_wp2_with fail
    refine Calls.mono (NW.out _ (by omega)) ?_
    rintro e w2 ⟨A, b, r, rfl, L, b2', hr⟩
    have B2 := below_trans hb0 b2'
    have G2 := G.call B2
    have hr0 : ∀ g, r g ≠ .none → wc0.heap.size ≤ g := fun g e => Nat.le_trans hb0.size (hr g e)
    clear NW n1 n2 n4 hb0 b2' hr
    go_wp2_with fail
    refine Calls.mono (SH.out _) ?_
    rintro e w3 ⟨rfl, b3'⟩
    have B3 := below_trans B2 b3'
    have G3 := G2.call b3'
    have L3 := L.below b3'
    clear SH L b3' G2 B2
    go_wp2_with fail
    refine Calls.mono (EN.out _) ?_
    rintro e w4 ⟨rfl, b4'⟩
    have B4 := below_trans B3 b4'
    have G4 := G3.call b4'
    have L4 := L3.below b4'
    clear EN L3 b4' G3 B3
    have HPB : Hid ((⟨#[47, 109, 121, 98, 111, 120, 47]⟩ : ByteArray) ++ ⟨(enc true k).toArray⟩ = ⟨(enc true (47 :: (tBox ++ 47 :: k))).toArray⟩) := by
      show _ = _
      rw [HP.out]; exact R.str_app [47, 109, 121, 98, 111, 120, 47] (enc true k)
    have BH : Hid (∀ (m tg yy : Tx) (x : Int) (W : World), x = ((c1 + a1 : Nat) : Int) → m.length ≤ 1000 → tg.length ≤ 1000 → yy.length ≤ 300 → GL W → Calls Tryz.prog 14 #[str tMe, str se, .int .i64 x, str m, str tg, str yy] W fun e w' => e = .returned (str (headT tMe se (c1 + a1) m tg yy)) ∧ Below W.heap.size W w') := fun m tg yy x W hx h1 h2 h3 GW => by
      subst hx
      have := hse.2
      exact byHeader_any tMe se (c1 + a1) m tg yy (by omega) (by simp) (by omega) (by omega) (by omega) (by omega) W GW
    have BQ : Hid (∀ (m tg yy : Tx) (x z : Int) (W : World), x = ((c1 + a1 : Nat) : Int) → z = ((1 + f1 : Nat) : Int) → m.length ≤ 1000 → tg.length ≤ 1000 → yy.length ≤ 300 → GL W → Calls Tryz.prog 15 #[str tMe, str se, .int .i64 x, .int .i64 z, str m, str tg, str yy] W fun e w' => e = .returned (str (queryT tMe se (c1 + a1) (1 + f1) m tg yy)) ∧ Below W.heap.size W w') := fun m tg yy x z W hx hz h1 h2 h3 GW => by
      subst hx; subst hz
      have := hse.2
      exact byQuery_any tMe se (c1 + a1) (1 + f1) m tg yy (by omega) (by omega) (by simp) (by omega) (by omega) (by omega) (by omega) W GW
    go_wp2_with fail
    rw [HPB.out]
    refine Calls.mono (BH.out tPUT tMyBox [] _ w4 (by omega) (by decide) (by decide) (by simp) G4) ?_
    rintro e w5 ⟨rfl, b5'⟩
    have B5 := below_trans B4 b5'
    have G5 := G4.call b5'
    have L5 := L4.below b5'
    clear L4 b5' G4 B4
    go_wp2_with fail
    refine Calls.mono (BH.out tPUT (enc true (47 :: (tBox ++ 47 :: k))) y _ w5 (by omega) (by decide) el2 hy G5) ?_
    rintro e w6 ⟨rfl, b6'⟩
    have B6 := below_trans B5 b6'
    have G6 := G5.call b6'
    have L6 := L5.below b6'
    clear L5 b6' G5 B5
    go_wp2_with fail
    refine Calls.mono (BH.out tGET (enc true (47 :: (tBox ++ 47 :: k))) [] _ w6 (by omega) (by decide) el2 (by simp) G6) ?_
    rintro e w7 ⟨rfl, b7'⟩
    have B7 := below_trans B6 b7'
    have G7 := G6.call b7'
    have L7 := L6.below b7'
    clear L6 b7' G6 B6
    have m1 : IntKind.i64.wrap (2000 + (c1 : Int) + 900) = 2000 + (c1 : Int) + 900 := by unfold IntKind.wrap; simp [IntKind.bits, IntKind.signed]; omega
    have m2 : IntKind.i64.wrap (2000 + (c1 : Int) - 900) = 2000 + (c1 : Int) - 900 := by unfold IntKind.wrap; simp [IntKind.bits, IntKind.signed]; omega
    have m3 : IntKind.i64.wrap (2000 + (c1 : Int) + (a1 : Int) - 2000 + (1 + (f1 : Int))) = 2000 + (c1 : Int) + (a1 : Int) - 2000 + (1 + (f1 : Int)) := by unfold IntKind.wrap; simp [IntKind.bits, IntKind.signed]; omega
    have HRF : Hid (rightP (2000 + c1) (c1 + a1) (1 + f1) false = (decide (c1 + a1 ≤ 2000 + c1 + 900) && decide (2000 + c1 ≤ c1 + a1 + 900))) := rfl
    have HRT : Hid (rightP (2000 + c1) (c1 + a1) (1 + f1) true = (decide (c1 + a1 ≤ 2000 + c1 + 900) && decide (2000 + c1 < c1 + a1 + (1 + f1)))) := rfl
    go_upto_region 15 with (fail)
    go_cut [25] from 77 to 86 (fun v wx => v = .bool (rightP (2000 + c1) (c1 + a1) (1 + f1) false) ∧ wx = w7)
    case first =>
      by_cases hA : c1 + a1 ≤ 2000 + c1 + 900
      · have hA' : 2000 + (c1 : Int) + (a1 : Int) - 2000 ≤ 2000 + (c1 : Int) + 900 := by omega
        by_cases hB : 2000 + c1 ≤ c1 + a1 + 900
        · have hB' : 2000 + (c1 : Int) - 900 ≤ 2000 + (c1 : Int) + (a1 : Int) - 2000 := by omega
          go_wp2
          go_meet
          exact ⟨by rw [HRF.out, decide_eq_true hA, decide_eq_true hB]; rfl, rfl⟩
        · have hB' : ¬ (2000 + (c1 : Int) - 900 ≤ 2000 + (c1 : Int) + (a1 : Int) - 2000) := by omega
          go_wp2
          go_meet
          exact ⟨by rw [HRF.out, decide_eq_true hA, decide_eq_false hB]; rfl, rfl⟩
      · have hA' : ¬ (2000 + (c1 : Int) + (a1 : Int) - 2000 ≤ 2000 + (c1 : Int) + 900) := by omega
        go_wp2
        go_meet
        exact ⟨by rw [HRF.out, decide_eq_false hA]; rfl, rfl⟩
    case rest =>
      obtain ⟨rfl, rfl⟩ := hcut
      clear HRF
      have HRQ : Hid (reqs se (c1 + a1) (1 + f1) true k y = (queryT tMe se (c1 + a1) (1 + f1) tPUT tMyBox [], queryT tMe se (c1 + a1) (1 + f1) tPUT (enc true (47 :: (tBox ++ 47 :: k))) y, queryT tMe se (c1 + a1) (1 + f1) tGET (enc true (47 :: (tBox ++ 47 :: k))) [])) := rfl
      have HRH : Hid (reqs se (c1 + a1) (1 + f1) false k y = (headT tMe se (c1 + a1) tPUT tMyBox [], headT tMe se (c1 + a1) tPUT (enc true (47 :: (tBox ++ 47 :: k))) y, headT tMe se (c1 + a1) tGET (enc true (47 :: (tBox ++ 47 :: k))) [])) := rfl
      go_upto_if 87 with (fail)
      go_cut [22, 23, 24, 25] from 88 to 113 (fun q1 q2 q3 q4 wx => q1 = str (reqs se (c1 + a1) (1 + f1) query k y).1 ∧ q2 = str (reqs se (c1 + a1) (1 + f1) query k y).2.1 ∧ q3 = str (reqs se (c1 + a1) (1 + f1) query k y).2.2 ∧ q4 = .bool (rightP (2000 + c1) (c1 + a1) (1 + f1) query) ∧ Below wc.heap.size wc wx)
      case first =>
        cases query with
        | false =>
          go_wp2
          go_meet
          exact ⟨by rw [HRH.out] <;> rfl, by rw [HRH.out] <;> rfl, by rw [HRH.out] <;> rfl, rfl, Below.refl _ _⟩
        | true =>
          go_wp2_with fail
          refine Calls.mono (BQ.out tPUT tMyBox [] _ _ wc (by omega) (by omega) (by decide) (by decide) (by simp) G7) ?_
          rintro e w8 ⟨rfl, b8⟩
          go_wp2_with fail
          refine Calls.mono (BQ.out tPUT (enc true (47 :: (tBox ++ 47 :: k))) y _ _ w8 (by omega) (by omega) (by decide) el2 hy (G7.call b8)) ?_
          rintro e w9 ⟨rfl, b9⟩
          have b89 := below_trans b8 b9
          go_wp2_with fail
          refine Calls.mono (BQ.out tGET (enc true (47 :: (tBox ++ 47 :: k))) [] _ _ w9 (by omega) (by omega) (by decide) el2 (by simp) (G7.call b89)) ?_
          rintro e w10 ⟨rfl, b10⟩
          have b810 := below_trans b89 b10
          by_cases hA : c1 + a1 ≤ 2000 + c1 + 900
          · have hA' : 2000 + (c1 : Int) + (a1 : Int) - 2000 ≤ 2000 + (c1 : Int) + 900 := by omega
            by_cases hB : 2000 + c1 < c1 + a1 + (1 + f1)
            · have hB' : 2000 + (c1 : Int) < 2000 + (c1 : Int) + (a1 : Int) - 2000 + (1 + (f1 : Int)) := by omega
              go_wp2
              go_meet
              exact ⟨by rw [HRQ.out] <;> rfl, by rw [HRQ.out] <;> rfl, by rw [HRQ.out] <;> rfl, by rw [HRT.out, decide_eq_true hA, decide_eq_true hB]; rfl, b810⟩
            · have hB' : ¬ (2000 + (c1 : Int) < 2000 + (c1 : Int) + (a1 : Int) - 2000 + (1 + (f1 : Int))) := by omega
              go_wp2
              go_meet
              exact ⟨by rw [HRQ.out] <;> rfl, by rw [HRQ.out] <;> rfl, by rw [HRQ.out] <;> rfl, by rw [HRT.out, decide_eq_true hA, decide_eq_false hB]; exact congrArg Value.bool (decide_eq_false (by omega)), b810⟩
          · have hA' : ¬ (2000 + (c1 : Int) + (a1 : Int) - 2000 ≤ 2000 + (c1 : Int) + 900) := by omega
            go_wp2
            go_meet
            exact ⟨by rw [HRQ.out] <;> rfl, by rw [HRQ.out] <;> rfl, by rw [HRQ.out] <;> rfl, by rw [HRT.out, decide_eq_false hA]; rfl, b810⟩
      case rest =>
        obtain ⟨rfl, rfl, rfl, rfl, b11⟩ := hcut
        have G11 := G7.call b11
        have L11 := L7.below b11
        have B11 := below_trans B7 b11
        clear G7 L7 b11 B7 BH BQ HRH HRQ HRT m1 m2 m3 n3 HPB
        have PK : Hid (∀ W, R.Env W → Calls Tryz.prog 17 #[.int .i64 1] W fun e w' => e = .returned (str (respT 200 [(tVersion, Lib.itoa ((1 : Nat) : Int))] [])) ∧ Below W.heap.size W w') := fun W E => putK_any 1 (by omega) W E
        have GK : Hid (∀ W, R.Env W → Calls Tryz.prog 18 #[.int .i64 1, str y] W fun e w' => e = .returned (str (respT 200 [(tVersion, Lib.itoa ((1 : Nat) : Int)), (tLength, lenT y)] y)) ∧ Below W.heap.size W w') := fun W E => gotK_any 1 y (by omega) (by omega) W E
        have hzb := B11.size
        have FIN : Hid (∀ r' W, Step r wc r' W → Below wc0.heap.size wc0 W) := fun r' W st => B11.trans (st.kept.below hzb hr0)
        cases hR : rightP (2000 + c1) (c1 + a1) (1 + f1) query with
        | true =>
          obtain ⟨h1, h2, h3⟩ := HSAY.out.1 hR
          obtain ⟨t1, t2, t3⟩ := three_ok (b := tBox) (by decide) hk hy h1 h2 h3
          have D1 : Hid (_) := do_any A b [(tMe, se)] (2000 + c1) (Sto.new [tMe] 20000) r (reqs se (c1 + a1) (1 + f1) query k y).1 (by have := read_len (.inl ⟨_, h1⟩); omega) wc G11 L11 (noList_of h1 (by simp))
          have D2 : Hid (∀ r' W, LS A b [(tMe, se)] (2000 + c1) (doP [(tMe, se)] (2000 + c1) (Sto.new [tMe] 20000) (reqs se (c1 + a1) (1 + f1) query k y).1).2 r' W → GL W → _) := fun r' W L G => do_any A b [(tMe, se)] (2000 + c1) _ r' (reqs se (c1 + a1) (1 + f1) query k y).2.1 (by have := read_len (.inl ⟨_, h2⟩); omega) W G L (noList_of h2 (by simp))
          have D3 : Hid (∀ r' W, LS A b [(tMe, se)] (2000 + c1) (doP [(tMe, se)] (2000 + c1) (doP [(tMe, se)] (2000 + c1) (Sto.new [tMe] 20000) (reqs se (c1 + a1) (1 + f1) query k y).1).2 (reqs se (c1 + a1) (1 + f1) query k y).2.1).2 r' W → GL W → _) := fun r' W L G => do_any A b [(tMe, se)] (2000 + c1) _ r' (reqs se (c1 + a1) (1 + f1) query k y).2.2 (by have := read_len (.inl ⟨_, h3⟩); omega) W G L (noList_of h3 (by simp))
          rw [fineT] at t1
          rw [t1] at D1
          rw [t2] at D2
          rw [t3] at D3
          clear t1 t2 t3 h1 h2 h3 HSAY hR
          generalize (reqs se (c1 + a1) (1 + f1) query k y).1 = q1 at *
          generalize (reqs se (c1 + a1) (1 + f1) query k y).2.1 = q2 at *
          generalize (reqs se (c1 + a1) (1 + f1) query k y).2.2 = q3 at *
          generalize (doP [(tMe, se)] (2000 + c1) (Sto.new [tMe] 20000) q1).2 = s1 at *
          generalize (doP [(tMe, se)] (2000 + c1) s1 q2).2 = s2 at *
          generalize (doP [(tMe, se)] (2000 + c1) s2 q3).2 = s3 at *
          generalize respT 200 [(tVersion, Lib.itoa ((1 : Nat) : Int))] [] = p2 at *
          generalize respT 200 [(tVersion, Lib.itoa ((1 : Nat) : Int)), (tLength, lenT y)] y = p3 at *
          go_wp2_with fail
          refine Calls.mono D1.out ?_
          rintro e w12 ⟨r1, rfl, L12, st12⟩
          have G12 := L11.glob G11 st12
          have D2' : Hid (_) := D2.out r1 w12 L12 G12
          go_wp2_with fail
          refine Calls.mono D2'.out ?_
          rintro e w13 ⟨r2, rfl, L13, st13⟩
          have G13 := L12.glob G12 st13
          have D3' : Hid (_) := D3.out r2 w13 L13 G13
          go_wp2_with fail
          refine Calls.mono D3'.out ?_
          rintro e w14 ⟨r3, rfl, L14, st14⟩
          have G14 := L13.glob G13 st14
          have PK1 : Hid (_) := PK.out w14 G14.env
          have BF := FIN.out r3 w14 ((st12.trans st13).trans st14)
          have GK1 : Hid (∀ W, Below w14.heap.size w14 W → _) := fun W hW => GK.out W (G14.call hW).env
          clear D1 D2 D3 D2' D3' L11 L12 L13 L14 st12 st13 st14 PK GK FIN
          go_wp2_with fail
          refine Calls.mono PK1.out ?_
          rintro e w15 ⟨rfl, b15⟩
          go_wp2_with fail
          refine Calls.mono (GK1.out w15 b15) ?_
          rintro e w16 ⟨rfl, b16⟩
          have BG := BF.trans ((b15.mono BF.size).trans (b16.mono (Nat.le_trans BF.size b15.size)))
          go_wp2
          go_ret
          exact ⟨rfl, by rw [HW0.out]; exact BG⟩
        | false =>
          obtain ⟨h1, h2, h3⟩ := HSAY.out.2 hR
          have D1 : Hid (_) := fun r' W L G => do_any A b [(tMe, se)] (2000 + c1) (Sto.new [tMe] 20000) r' (reqs se (c1 + a1) (1 + f1) query k y).1 (by have := read_len (.inr h1); omega) W G L (noList_err h1)
          have D2 : Hid (_) := fun r' W L G => do_any A b [(tMe, se)] (2000 + c1) (Sto.new [tMe] 20000) r' (reqs se (c1 + a1) (1 + f1) query k y).2.1 (by have := read_len (.inr h2); omega) W G L (noList_err h2)
          have D3 : Hid (_) := fun r' W L G => do_any A b [(tMe, se)] (2000 + c1) (Sto.new [tMe] 20000) r' (reqs se (c1 + a1) (1 + f1) query k y).2.2 (by have := read_len (.inr h3); omega) W G L (noList_err h3)
          rw [do_err h1, deniedT] at D1
          rw [do_err h2, deniedT] at D2
          rw [do_err h3, deniedT] at D3
          simp only at D1 D2 D3
          clear h1 h2 h3 HSAY hR PK GK
          generalize (reqs se (c1 + a1) (1 + f1) query k y).1 = q1 at *
          generalize (reqs se (c1 + a1) (1 + f1) query k y).2.1 = q2 at *
          generalize (reqs se (c1 + a1) (1 + f1) query k y).2.2 = q3 at *
          go_wp2_with fail
          refine Calls.mono (D1.out r wc L11 G11) ?_
          rintro e w12 ⟨r1, rfl, L12, st12⟩
          have G12 := L11.glob G11 st12
          go_wp2_with fail
          refine Calls.mono (D2.out r1 w12 L12 G12) ?_
          rintro e w13 ⟨r2, rfl, L13, st13⟩
          have G13 := L12.glob G12 st13
          go_wp2_with fail
          refine Calls.mono (D3.out r2 w13 L13 G13) ?_
          rintro e w14 ⟨r3, rfl, L14, st14⟩
          have BF := FIN.out r3 w14 ((st12.trans st13).trans st14)
          clear D1 D2 D3 L11 L12 L13 L14 st12 st13 st14 FIN
          go_wp2
          go_ret
          exact ⟨rfl, by rw [HW0.out]; exact BF⟩
end Go.Proofs.YtbllcgibmgbnjaaGreatDoor.P
