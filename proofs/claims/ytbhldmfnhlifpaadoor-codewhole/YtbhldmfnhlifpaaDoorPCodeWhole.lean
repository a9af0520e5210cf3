/- CodeWhole: for every slice of bytes, in whatever world in which the tables of names (and three tables of Go's library) hold what the program's text lays into them, the call returns true, and the argument reads behind it as before; the tables are tied to the text (a card). No condition besides. -/
import Derived.Test.YtbhldmfnhlifpaaDoorCfr
import Derived.Test.YtbhldmfnhlifpaaDoorCea
import Derived.Test.YtbhldmfnhlifpaaDoorCards
import Derived.Test.YtbhldmfnhlifpaaDoorTie
import Derived.SevenTiedAt
namespace Go.Proofs.YtbhldmfnhlifpaaDoor
open Go.ChangeShapes Go.WideShapes Go.ChangeAt Go.RowKit
set_option maxRecDepth 100000 in
theorem codeWhole_lifted (os : Os) (started : os.Started) (H : Type) (enc : TypeId × Value → H) :
    ReturnsInHanded {} Tryd.checked os 7 .any (fun w args => (Rows.codeWholeSpec.pre enc Tryd.prog Tryd.f7 [] false w args ∧ laidMetH Tryd.prog laidA w) ∧ sizedMet enc Tryd.prog Tryd.f7 (OpenSpec.ofChange Rows.codeWholeSpec) false w args)
      (Rows.codeWholeSpec.post enc Tryd.prog Tryd.f7 false true false false) := by
  refine returnsInHanded_of_change_and (C := Tryd.checked) (X := fun w _ => laidMetH Tryd.prog laidA w) (fun _ _ _ hh h => h.of_heap hh) Tryd.own started (by kernel_rfl) Tryd.func7
    (ChangeSpec.witness_shaped (enc := enc) (C := Tryd.checked) (os := os) (X := fun w _ => laidMetH Tryd.prog laidA w) false (World.doorLaid Tryd.prog 400 os) #[.slice none 0 0] 8 rfl (World.shaped_of_RefB (by kernel_rfl) (by kernel_rfl)) (by kernel_rfl) (by kernel_rfl) (by kernel_rfl) (door_met os _)) ?_
  intro W base args ds gs before hval0 hW _ _ hL _
  have hval : ∀ (j : Nat) t v, Tryd.f7.params[j]? = some t → args[j]? = some v → Value.okWide Tryd.prog W .any base t v := hval0
  have hW' := hW
  obtain ⟨p, q, hA0, hV, rfl, hfz, hnd⟩ := hW
  have hA : DataW.TrodAll enc Tryd.prog W 0 (fun _ => true) true Tryd.f7.params.toList args.toList ds p := hA0
  rw [Tryd.params7] at hA hval
  obtain ⟨v0, vs0, d0, ds0, p0, q0, hargs, rfl, rfl, h0, r0⟩ := trodAll_cons hA
  obtain ⟨rfl, rfl, rfl⟩ := trodAll_nil r0
  obtain rfl : args = #[v0] := by cases args; simp_all
  obtain ⟨rfl, rfl⟩ := trodVars_none hV
  have k0 := h0
  have lt0 : ∀ x ∈ p0, x.block < W.heap.size := by obtain ⟨m, hm⟩ := k0; exact DataW.trod_lt m _ _ _ hm
  obtain ⟨L0, b0, hv0, hc0, hl0⟩ := openBy (hval 0 22 v0 rfl rfl) h0
  clear hA0 hval0
  refine (codeWhole_walk W (nms_of_laid hL) v0 L0 b0 hl0 hv0 hc0).mono fun e W' ⟨he, bel⟩ => ?_
  subst he
  exact ⟨_, rfl, _, _, _, [], _, [], hW', trodAll_mk1 (shut_bool Tryd.underlying4 _), (trodAll_cons_mk (Below.trod Tryd.laidOut (by kernel_rfl) (of_decide_eq_true (by kernel_rfl)) k0 bel lt0) trodAll_mk0), rfl, bel.frame _, fun h => by cases h⟩
theorem codeWhole_f0 : (Rows.codeWholeRow.inPlace == Tryd.pinned.checked.prog.inPlace 7) = true := by kernel_rfl
theorem codeWhole_f1 : (Rows.codeWholeRow.unfollowed == Tryd.pinned.checked.prog.unfollowed 7) = true := by kernel_rfl
theorem codeWhole_f2 : (Rows.codeWholeRow.recurses == Tryd.pinned.checked.prog.recurses 7) = true := by kernel_rfl
theorem codeWhole_f3 : (Rows.codeWholeRow.named == Tryd.pinned.checked.prog.varsNamed 7) = true := by kernel_rfl
theorem codeWhole_f4 : laidOutB Tryd.pinned.checked.prog = true := by kernel_rfl
theorem codeWhole_f5 : mapsRowed Tryd.pinned.checked.prog = true := by kernel_rfl
theorem codeWhole_closed : joinedFacts Tryd.pinned.checked.prog 7 Tryd.f7 Rows.codeWholeSpec Rows.codeWholeRow = true := by
  unfold joinedFacts
  rw [codeWhole_f0, codeWhole_f1, codeWhole_f2, codeWhole_f3, codeWhole_f4, codeWhole_f5]
  kernel_rfl
theorem codeWhole_fname : Tryd.pinned.checked.prog.funcNamed "vouch/vouchlaw6.CodeWhole" = some 7 := by kernel_rfl
theorem codeWhole_wrap : Tryd.f7.isWrapper Tryd.pinned.checked.prog Rows.codeWholeRow.wrapper Rows.codeWholeRow.mainSum := by unfold Func.isWrapper; first | (rw [if_pos (by decide +kernel)]; kernel_rfl) | (rw [if_neg (by decide +kernel)]; exact ⟨rfl, rfl⟩)
theorem codeWhole_goes : false = Rows.codeWholeRow.goesBy Tryd.pinned.checked.prog := by kernel_rfl
theorem codeWhole_main : Tryd.pinned.checked.prog.mainIs = some (true, "93ee754c12ca7ffad98bdd674fcd2a87e04ef1a615fc2e8ab3699855e99ce39c".toList) := by kernel_rfl
theorem codeWhole_looks : false = Tryd.pinned.checked.prog.looks [] := by kernel_rfl
theorem codeWhole_wf : Rows.codeWholeRow.wfByText (OpenSpec.ofChange Rows.codeWholeSpec) = true := by kernel_rfl
theorem codeWhole_row : Rows.CodeWholeSaid :=
  OpenClaim.holds_of_wide 7 Tryd.f7 rfl rfl rfl rfl rfl rfl rfl ⟨rfl, rfl, rfl, rfl, rfl⟩ rfl rfl rfl rfl rfl codeWhole_fname Tryd.func7 codeWhole_closed
    (of_decide_eq_true (by kernel_rfl)) codeWhole_wrap
    (fun os started H enc _ => codeWhole_lifted os started H enc)
theorem codeWhole_holds : Rows.CodeWholeCardSaid :=
  Claim7.holds_tied_plain_at .later [] [.data, .data, .data, .data, .data, .data, .data, .data, .data, .data, .data] true (true, "93ee754c12ca7ffad98bdd674fcd2a87e04ef1a615fc2e8ab3699855e99ce39c") false
    codeWhole_row (fun _ h => by cases h) codeWhole_wf (fun _ h => by cases h) codeWhole_row_tie rfl ⟨rfl, rfl⟩ codeWhole_main rfl
    (fun f fn hf hfn => by
      obtain rfl : f = 7 := Option.some.inj (codeWhole_fname.symm.trans hf) |>.symm
      obtain rfl : fn = Tryd.f7 := (Option.some.inj (Tryd.func7.symm.trans hfn)).symm
      exact ⟨codeWhole_looks, fun j t ht => by
        rw [Tryd.params7] at ht
        have h3 : t = 22 := by
          rcases j with _ | j
          · simp at ht; subst ht; simp
          simp at ht
        rcases h3 with rfl
        · exact (show Tryd.prog.wantsStandIn 22 = false by kernel_rfl)⟩)
    codeWhole_goes
end Go.Proofs.YtbhldmfnhlifpaaDoor
