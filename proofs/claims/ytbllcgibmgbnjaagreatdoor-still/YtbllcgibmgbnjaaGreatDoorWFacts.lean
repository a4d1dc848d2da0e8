import Derived.Test.YtbllcgibmgbnjaaGreatDoorRows
import Derived.Test.YtbllcgibmgbnjaaGreatDoorChecked
import Derived.ProofKit
set_option maxHeartbeats 100000000
namespace Go.Proofs.YtbllcgibmgbnjaaGreatDoor.stillProof
theorem facts:joinedFacts Tryz.pinned.checked.prog 8 Tryz.f8 (OpenSpec.ofChange Rows.stillSpec).bare Rows.stillRow=true:=by
 simp only [joinedFacts,Bool.and_eq_true]
 repeat' apply And.intro
 all_goals (as_aux_lemma=>kernel_rfl)
end Go.Proofs.YtbllcgibmgbnjaaGreatDoor.stillProof
