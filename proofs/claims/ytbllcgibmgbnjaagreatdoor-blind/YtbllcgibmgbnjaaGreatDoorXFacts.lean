import Derived.Test.YtbllcgibmgbnjaaGreatDoorRows
import Derived.Test.YtbllcgibmgbnjaaGreatDoorChecked
import Derived.ProofKit
set_option maxHeartbeats 100000000
namespace Go.Proofs.YtbllcgibmgbnjaaGreatDoor.blindProof
theorem facts:joinedFacts Tryz.pinned.checked.prog 6 Tryz.f6 (OpenSpec.ofChange Rows.blindSpec).bare Rows.blindRow=true:=by
 simp only [joinedFacts,Bool.and_eq_true]
 repeat' apply And.intro
 all_goals (as_aux_lemma=>kernel_rfl)
end Go.Proofs.YtbllcgibmgbnjaaGreatDoor.blindProof
