/- CodeAgrees: One, Scan, All and Starts tell the same of any section; the tables are tied to the text (a card). No condition besides. -/
import Derived.Test.YtcjmbpchdeapiaaDoorCfr
import Derived.Test.YtcjmbpchdeapiaaDoorCqb
import Derived.Test.YtcjmbpchdeapiaaDoorCards
import Derived.Test.YtcjmbpchdeapiaaDoorTie
import Derived.SevenTiedAt
namespace Go.Proofs.YtcjmbpchdeapiaaDoor
open Go.ChangeShapes Go.WideShapes Go.ChangeAt Go.RowKit
set_option maxRecDepth 100000 in
theorem codeAgrees_lifted (os : Os) (started : os.Started) (H : Type) (enc : TypeId × Value → H) :
    ReturnsInHanded {} Tryd.checked os 4 .any (fun w args => (Rows.codeAgreesSpec.pre enc Tryd.prog Tryd.f4 [] false w args ∧ laidMetH Tryd.prog laidA w) ∧ sizedMet enc Tryd.prog Tryd.f4 (OpenSpec.ofChange Rows.codeAgreesSpec) false w args)
      (Rows.codeAgreesSpec.post enc Tryd.prog Tryd.f4 false true false false) := by
  refine returnsInHanded_of_change_and (C := Tryd.checked) (X := fun w _ => laidMetH Tryd.prog laidA w) (fun _ _ _ hh h => h.of_heap hh) Tryd.own started (by kernel_rfl) Tryd.func4
    (ChangeSpec.witness_shaped (enc := enc) (C := Tryd.checked) (os := os) (X := fun w _ => laidMetH Tryd.prog laidA w) false (World.doorLaid Tryd.prog 400 os) #[.slice none 0 0] 8 rfl (World.shaped_of_RefB (by kernel_rfl) (by kernel_rfl)) (by kernel_rfl) (by kernel_rfl) (by kernel_rfl) (door_met os _)) ?_
  intro W base args ds gs before hval0 hW _ _ hL _
  have hval : ∀ (j : Nat) t v, Tryd.f4.params[j]? = some t → args[j]? = some v → Value.okWide Tryd.prog W .any base t v := hval0
  have hW' := hW
  obtain ⟨p, q, hA0, hV, rfl, hfz, hnd⟩ := hW
  have hA : DataW.TrodAll enc Tryd.prog W 0 (fun _ => true) true Tryd.f4.params.toList args.toList ds p := hA0
  rw [Tryd.params4] at hA hval
  obtain ⟨v0, vs0, d0, ds0, p0, q0, hargs, rfl, rfl, h0, r0⟩ := trodAll_cons hA
  obtain ⟨rfl, rfl, rfl⟩ := trodAll_nil r0
  obtain rfl : args = #[v0] := by cases args; simp_all
  obtain ⟨rfl, rfl⟩ := trodVars_none hV
  have k0 := h0
  have lt0 : ∀ x ∈ p0, x.block < W.heap.size := by obtain ⟨m, hm⟩ := k0; exact DataW.trod_lt m _ _ _ hm
  obtain ⟨L0, b0, hv0, hc0, hl0⟩ := openBy (hval 0 22 v0 rfl rfl) h0
  clear hA0 hval0
  refine (codeAgrees_walk W (nms_of_laid hL) v0 L0 b0 hl0 hv0 hc0).mono fun e W' ⟨he, bel⟩ => ?_
  subst he
  exact ⟨_, rfl, _, _, _, [], _, [], hW', trodAll_mk1 (shut_bool Tryd.underlying4 _), (trodAll_cons_mk (Below.trod Tryd.laidOut (by kernel_rfl) (of_decide_eq_true (by kernel_rfl)) k0 bel lt0) trodAll_mk0), rfl, bel.frame _, fun h => by cases h⟩
theorem codeAgrees_f0 : (Rows.codeAgreesRow.inPlace == Tryd.pinned.checked.prog.inPlace 4) = true := by kernel_rfl
theorem codeAgrees_f1 : (Rows.codeAgreesRow.unfollowed == Tryd.pinned.checked.prog.unfollowed 4) = true := by kernel_rfl
theorem codeAgrees_f2 : (Rows.codeAgreesRow.recurses == Tryd.pinned.checked.prog.recurses 4) = true := by kernel_rfl
theorem codeAgrees_f3 : (Rows.codeAgreesRow.named == Tryd.pinned.checked.prog.varsNamed 4) = true := by kernel_rfl
theorem codeAgrees_f4 : laidOutB Tryd.pinned.checked.prog = true := by kernel_rfl
theorem codeAgrees_f5 : mapsRowed Tryd.pinned.checked.prog = true := by kernel_rfl
theorem codeAgrees_closed : joinedFacts Tryd.pinned.checked.prog 4 Tryd.f4 Rows.codeAgreesSpec Rows.codeAgreesRow = true := by
  unfold joinedFacts
  rw [codeAgrees_f0, codeAgrees_f1, codeAgrees_f2, codeAgrees_f3, codeAgrees_f4, codeAgrees_f5]
  kernel_rfl
theorem codeAgrees_fname : Tryd.pinned.checked.prog.funcNamed "vouch/vouchlaw6.CodeAgrees" = some 4 := by kernel_rfl
theorem codeAgrees_wrap : Tryd.f4.isWrapper Tryd.pinned.checked.prog Rows.codeAgreesRow.wrapper Rows.codeAgreesRow.mainSum := by unfold Func.isWrapper; first | (rw [if_pos (by decide +kernel)]; kernel_rfl) | (rw [if_neg (by decide +kernel)]; exact ⟨rfl, rfl⟩)
theorem codeAgrees_goes : false = Rows.codeAgreesRow.goesBy Tryd.pinned.checked.prog := by kernel_rfl
theorem codeAgrees_main : Tryd.pinned.checked.prog.mainIs = some (true, "fcaa4281201bd7052498e0c4be9735d0e8078be55e951da50a16e7f3daa3427d".toList) := by kernel_rfl
theorem codeAgrees_looks : false = Tryd.pinned.checked.prog.looks [] := by kernel_rfl
theorem codeAgrees_wf : Rows.codeAgreesRow.wfByText (OpenSpec.ofChange Rows.codeAgreesSpec) = true := by kernel_rfl
theorem codeAgrees_row : Rows.CodeAgreesSaid :=
  OpenClaim.holds_of_wide 4 Tryd.f4 rfl rfl rfl rfl rfl rfl rfl ⟨rfl, rfl, rfl, rfl, rfl⟩ rfl rfl rfl rfl rfl codeAgrees_fname Tryd.func4 codeAgrees_closed
    (of_decide_eq_true (by kernel_rfl)) codeAgrees_wrap
    (fun os started H enc _ => codeAgrees_lifted os started H enc)
theorem codeAgrees_holds : Rows.CodeAgreesCardSaid :=
  Claim7.holds_tied_plain_at .later [] [.data, .data, .data, .data, .data, .data, .data, .data, .data, .data, .data] true (true, "fcaa4281201bd7052498e0c4be9735d0e8078be55e951da50a16e7f3daa3427d") false
    codeAgrees_row (fun _ h => by cases h) codeAgrees_wf (fun _ h => by cases h) codeAgrees_row_tie rfl ⟨rfl, rfl⟩ codeAgrees_main rfl
    (fun f fn hf hfn => by
      obtain rfl : f = 4 := Option.some.inj (codeAgrees_fname.symm.trans hf) |>.symm
      obtain rfl : fn = Tryd.f4 := (Option.some.inj (Tryd.func4.symm.trans hfn)).symm
      exact ⟨codeAgrees_looks, fun j t ht => by
        rw [Tryd.params4] at ht
        have h3 : t = 22 := by
          rcases j with _ | j
          · simp at ht; subst ht; simp
          simp at ht
        rcases h3 with rfl
        · exact (show Tryd.prog.wantsStandIn 22 = false by kernel_rfl)⟩)
    codeAgrees_goes
end Go.Proofs.YtcjmbpchdeapiaaDoor
