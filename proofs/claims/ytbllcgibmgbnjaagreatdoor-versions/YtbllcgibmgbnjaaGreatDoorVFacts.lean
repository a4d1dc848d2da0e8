import Derived.Test.YtbllcgibmgbnjaaGreatDoorRows
import Derived.Test.YtbllcgibmgbnjaaGreatDoorChecked
import Derived.ProofKit
namespace Go.Proofs.YtbllcgibmgbnjaaGreatDoor.versionsProof
set_option maxHeartbeats 100000000 in
theorem facts:joinedFacts Tryz.pinned.checked.prog 4 Tryz.f4 (OpenSpec.ofChange Rows.versionsSpec).bare Rows.versionsRow=true:=by
 simp only [joinedFacts,Bool.and_eq_true]
 repeat' apply And.intro
 all_goals (as_aux_lemma=>kernel_rfl)
end Go.Proofs.YtbllcgibmgbnjaaGreatDoor.versionsProof
