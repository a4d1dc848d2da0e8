/-
  THE CLOSED FACTS OF THE ROW OF Canons, one by one: together they want more memory than there is.
-/
import Derived.Test.YtinnliapfdpfpaaGreatDoorRows
import Derived.Test.YtinnliapfdpfpaaGreatDoorChecked
import Derived.ProofKit
namespace Go.Proofs.YtinnliapfdpfpaaGreatDoor.canonsProof

set_option maxHeartbeats 100000000 in
theorem facts : joinedFacts Tryz.pinned.checked.prog 3 Tryz.f3 (Rows.OpenSpec.upto Rows.canonsSpec).bare Rows.canonsUptoRow = true := by
  simp only [joinedFacts, Bool.and_eq_true]
  repeat' apply And.intro
  all_goals (as_aux_lemma => kernel_rfl)
end Go.Proofs.YtinnliapfdpfpaaGreatDoor.canonsProof
