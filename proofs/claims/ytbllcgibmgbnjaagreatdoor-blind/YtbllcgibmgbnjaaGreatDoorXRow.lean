import Derived.Test.YtbllcgibmgbnjaaGreatDoorShelf
import Derived.Test.YtbllcgibmgbnjaaGreatDoorM02
import Derived.Test.YtbllcgibmgbnjaaGreatDoorM03
import Derived.Test.YtbllcgibmgbnjaaGreatDoorM04
import Derived.Test.YtbllcgibmgbnjaaGreatDoorM05
import Derived.Test.YtbllcgibmgbnjaaGreatDoorM06
import Derived.Test.YtbllcgibmgbnjaaGreatDoorM07
import Derived.Test.YtbllcgibmgbnjaaGreatDoorM08
import Derived.Test.YtbllcgibmgbnjaaGreatDoorM09
import Derived.Test.YtbllcgibmgbnjaaGreatDoorM10
import Derived.Test.YtbllcgibmgbnjaaGreatDoorM11
import Derived.Test.YtbllcgibmgbnjaaGreatDoorM12
import Derived.Test.YtbllcgibmgbnjaaGreatDoorM13
import Derived.Test.YtbllcgibmgbnjaaGreatDoorM14
import Derived.Test.YtbllcgibmgbnjaaGreatDoorM15
import Derived.Test.YtbllcgibmgbnjaaGreatDoorM16
import Derived.Test.YtbllcgibmgbnjaaGreatDoorM17
import Derived.Test.YtbllcgibmgbnjaaGreatDoorM18
import Derived.Test.YtbllcgibmgbnjaaGreatDoorM19
import Derived.Test.YtbllcgibmgbnjaaGreatDoorM20
import Derived.Test.YtbllcgibmgbnjaaGreatDoorM21
import Derived.Test.YtbllcgibmgbnjaaGreatDoorM22
import Derived.Test.YtbllcgibmgbnjaaGreatDoorM23
import Derived.Test.YtbllcgibmgbnjaaGreatDoorM24
import Derived.Test.YtbllcgibmgbnjaaGreatDoorM25
import Derived.Test.YtbllcgibmgbnjaaGreatDoorM26
import Derived.Test.YtbllcgibmgbnjaaGreatDoorM27
import Derived.Test.YtbllcgibmgbnjaaGreatDoorM28
import Derived.Test.YtbllcgibmgbnjaaGreatDoorM40
import Derived.Test.YtbllcgibmgbnjaaGreatDoorM41
import Derived.Test.YtbllcgibmgbnjaaGreatDoorVCon
import Derived.Test.YtbllcgibmgbnjaaGreatDoorXCon
import Derived.Test.YtbllcgibmgbnjaaGreatDoorXFacts
import Derived.Test.YtbllcgibmgbnjaaGreatDoorCards
import Derived.Test.YtbllcgibmgbnjaaGreatDoorTie
namespace Go.Proofs.YtbllcgibmgbnjaaGreatDoor.blindProof
open Go.ChangeShapes Go.WideShapes Go.ChangeAt Go.RowKit
theorem said:Rows.BlindSaid :=
 OpenClaim.holds_of_cond 6 Tryz.f6 rfl rfl rfl rfl rfl rfl rfl ⟨rfl,rfl,rfl,rfl,rfl⟩ rfl rfl rfl rfl rfl (by as_aux_lemma=>kernel_rfl) Tryz.func6 facts
  (of_decide_eq_true (by as_aux_lemma=>kernel_rfl)) (by unfold Func.isWrapper;first|(rw [if_pos (by decide +kernel)];kernel_rfl)|(rw [if_neg (by decide +kernel)];exact ⟨rfl,rfl⟩))
  (fun os started H enc _ F=>by rw [OpenClaim.pre_eq_preRow];exact lifted os started H enc F)
theorem plain (f : FuncId) (fn : Func) (hf : Tryz.pinned.checked.prog.funcNamed "larder/larderkeep.Blind" = some f) (hfn : Tryz.pinned.checked.prog.funcs[f]? = some fn) :
  true=Tryz.pinned.checked.prog.looks []∧∀ (j:Nat) t,fn.params[j]?=some t→Tryz.pinned.checked.prog.wantsStandIn t=false:=by
 obtain rfl : f = 6 := Option.some.inj ((show Tryz.prog.funcNamed "larder/larderkeep.Blind" = some 6 by kernel_rfl).symm.trans hf) |>.symm
 obtain rfl:fn=Tryz.f6:=(Option.some.inj (Tryz.func6.symm.trans hfn)).symm
 refine ⟨by kernel_rfl,fun j t ht=>?_⟩
 rw [Tryz.params6] at ht
 have hts:t=40∨t=59:=by
  have h:=Array.mem_of_getElem? ht
  simp only [List.mem_toArray,List.mem_cons,List.not_mem_nil,or_false] at h
  exact h
 rcases hts with rfl|rfl
 ·exact (show Tryz.prog.wantsStandIn 40=false by kernel_rfl)
 ·exact (show Tryz.prog.wantsStandIn 59=false by kernel_rfl)
theorem card:Rows.BlindCardSaid :=
 Claim7.holds_tied_plain_at .later [] _ _ _ _ said (fun _ h=>by cases h) (by as_aux_lemma=>kernel_rfl) (fun _ h=>by cases h) blind_row_tie rfl ⟨rfl,rfl⟩ (by as_aux_lemma=>kernel_rfl) rfl plain (by as_aux_lemma=>kernel_rfl)
end Go.Proofs.YtbllcgibmgbnjaaGreatDoor.blindProof
namespace Go.Proofs.YtbllcgibmgbnjaaGreatDoor
theorem blind_card:Rows.BlindCardSaid:=blindProof.card
end Go.Proofs.YtbllcgibmgbnjaaGreatDoor
