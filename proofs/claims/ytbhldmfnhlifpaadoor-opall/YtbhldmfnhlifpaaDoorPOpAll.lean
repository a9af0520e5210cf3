/- OpAll: every row, in its order, also from within (the second form); the tables are tied to the text (a card). No condition besides. -/
import Derived.Test.YtbhldmfnhlifpaaDoorOan
namespace Go.Proofs.YtbhldmfnhlifpaaDoor
open Go.ChangeShapes Go.WideShapes Go.ChangeAt Go.RowKit
theorem opAll_f0 : (Rows.opAllUptoRow.inPlace == Tryd.pinned.checked.prog.inPlace 26) = true := by kernel_rfl
theorem opAll_f1 : (Rows.opAllUptoRow.unfollowed == Tryd.pinned.checked.prog.unfollowed 26) = true := by kernel_rfl
theorem opAll_f2 : (Rows.opAllUptoRow.recurses == Tryd.pinned.checked.prog.recurses 26) = true := by kernel_rfl
theorem opAll_f3 : (Rows.opAllUptoRow.named == Tryd.pinned.checked.prog.varsNamed 26) = true := by kernel_rfl
theorem opAll_f4 : laidOutB Tryd.pinned.checked.prog = true := by kernel_rfl
theorem opAll_f5 : mapsRowed Tryd.pinned.checked.prog = true := by kernel_rfl
theorem opAll_closed : joinedFacts Tryd.pinned.checked.prog 26 Tryd.f26 (Rows.OpenSpec.upto Rows.opAllSpec).bare Rows.opAllUptoRow = true := by
  unfold joinedFacts
  rw [opAll_f0, opAll_f1, opAll_f2, opAll_f3, opAll_f4, opAll_f5]
  kernel_rfl
theorem opAll_fname : Tryd.pinned.checked.prog.funcNamed "vouch/vouchlaw4.OpAll" = some 26 := by kernel_rfl
theorem opAll_wrap : Tryd.f26.isWrapper Tryd.pinned.checked.prog Rows.opAllUptoRow.wrapper Rows.opAllUptoRow.mainSum := by unfold Func.isWrapper; first | (rw [if_pos (by decide +kernel)]; kernel_rfl) | (rw [if_neg (by decide +kernel)]; exact ⟨rfl, rfl⟩)
theorem opAll_goes : false = Rows.opAllUptoRow.goesBy Tryd.pinned.checked.prog := by kernel_rfl
theorem opAll_main : Tryd.pinned.checked.prog.mainIs = some (true, "93ee754c12ca7ffad98bdd674fcd2a87e04ef1a615fc2e8ab3699855e99ce39c".toList) := by kernel_rfl
theorem opAll_looks : false = Tryd.pinned.checked.prog.looks [] := by kernel_rfl
theorem opAll_wf : Rows.opAllUptoRow.wfByText (Rows.OpenSpec.upto Rows.opAllSpec) = true := by kernel_rfl
theorem opAll_row : Rows.OpAllUptoSaid :=
  OpenClaim.holds_of_cond 26 Tryd.f26 rfl rfl rfl rfl rfl rfl rfl ⟨rfl, rfl, rfl, rfl, rfl⟩ rfl rfl rfl rfl rfl opAll_fname Tryd.func26 opAll_closed
    (of_decide_eq_true (by kernel_rfl)) opAll_wrap
    (fun os started H enc _ F => opAllUpto_lifted os started H enc F)
theorem opAll_holds : Rows.OpAllUptoCardSaid :=
  Claim7.holds_tied_plain_at .later [] [.data, .data, .data, .data, .data, .data, .data, .data, .data, .data, .data] true (true, "93ee754c12ca7ffad98bdd674fcd2a87e04ef1a615fc2e8ab3699855e99ce39c") false
    opAll_row (fun _ h => by cases h) opAll_wf (fun _ h => by cases h) opAllUpto_row_tie rfl ⟨rfl, rfl⟩ opAll_main rfl
    (fun f fn hf hfn => by
      obtain rfl : f = 26 := Option.some.inj (opAll_fname.symm.trans hf) |>.symm
      obtain rfl : fn = Tryd.f26 := (Option.some.inj (Tryd.func26.symm.trans hfn)).symm
      exact ⟨opAll_looks, fun j t ht => by
        rw [Tryd.params26] at ht
        have h3 : t = 3 := by
          rcases j with _ | j
          · simp at ht; subst ht; simp
          rcases j with _ | j
          · simp at ht; subst ht; simp
          simp at ht
        rcases h3 with rfl
        · exact (show Tryd.prog.wantsStandIn 3 = false by kernel_rfl)⟩)
    opAll_goes
end Go.Proofs.YtbhldmfnhlifpaaDoor
