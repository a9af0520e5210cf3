/- CodeChecks: for every slice of bytes, in whatever world in which the tables of names (and three tables of Go's library) hold what the program's text lays into them, the call returns true, and the argument reads behind it as before; the tables are tied to the text (a card). No condition besides. -/
import Derived.Test.YtbhldmfnhlifpaaDoorCfr
import Derived.Test.YtbhldmfnhlifpaaDoorCee
import Derived.Test.YtbhldmfnhlifpaaDoorCards
import Derived.Test.YtbhldmfnhlifpaaDoorTie
import Derived.SevenTiedAt
namespace Go.Proofs.YtbhldmfnhlifpaaDoor
open Go.ChangeShapes Go.WideShapes Go.ChangeAt Go.RowKit
set_option maxRecDepth 100000 in
theorem codeChecks_lifted (os : Os) (started : os.Started) (H : Type) (enc : TypeId × Value → H) :
    ReturnsInHanded {} Tryd.checked os 5 .any (fun w args => (Rows.codeChecksSpec.pre enc Tryd.prog Tryd.f5 [] false w args ∧ laidMetH Tryd.prog laidA w) ∧ sizedMet enc Tryd.prog Tryd.f5 (OpenSpec.ofChange Rows.codeChecksSpec) false w args)
      (Rows.codeChecksSpec.post enc Tryd.prog Tryd.f5 false true false false) := by
  refine returnsInHanded_of_change_and (C := Tryd.checked) (X := fun w _ => laidMetH Tryd.prog laidA w) (fun _ _ _ hh h => h.of_heap hh) Tryd.own started (by kernel_rfl) Tryd.func5
    (ChangeSpec.witness_shaped (enc := enc) (C := Tryd.checked) (os := os) (X := fun w _ => laidMetH Tryd.prog laidA w) false (World.doorLaid Tryd.prog 400 os) #[.slice none 0 0] 8 rfl (World.shaped_of_RefB (by kernel_rfl) (by kernel_rfl)) (by kernel_rfl) (by kernel_rfl) (by kernel_rfl) (door_met os _)) ?_
  intro W base args ds gs before hval0 hW _ _ hL _
  have hval : ∀ (j : Nat) t v, Tryd.f5.params[j]? = some t → args[j]? = some v → Value.okWide Tryd.prog W .any base t v := hval0
  have hW' := hW
  obtain ⟨p, q, hA0, hV, rfl, hfz, hnd⟩ := hW
  have hA : DataW.TrodAll enc Tryd.prog W 0 (fun _ => true) true Tryd.f5.params.toList args.toList ds p := hA0
  rw [Tryd.params5] at hA hval
  obtain ⟨v0, vs0, d0, ds0, p0, q0, hargs, rfl, rfl, h0, r0⟩ := trodAll_cons hA
  obtain ⟨rfl, rfl, rfl⟩ := trodAll_nil r0
  obtain rfl : args = #[v0] := by cases args; simp_all
  obtain ⟨rfl, rfl⟩ := trodVars_none hV
  have k0 := h0
  have lt0 : ∀ x ∈ p0, x.block < W.heap.size := by obtain ⟨m, hm⟩ := k0; exact DataW.trod_lt m _ _ _ hm
  obtain ⟨L0, b0, hv0, hc0, hl0⟩ := openBy (hval 0 22 v0 rfl rfl) h0
  clear hA0 hval0
  refine (codeChecks_walk W (nms_of_laid hL) v0 L0 b0 hl0 hv0 hc0).mono fun e W' ⟨he, bel⟩ => ?_
  subst he
  exact ⟨_, rfl, _, _, _, [], _, [], hW', trodAll_mk1 (shut_bool Tryd.underlying4 _), (trodAll_cons_mk (Below.trod Tryd.laidOut (by kernel_rfl) (of_decide_eq_true (by kernel_rfl)) k0 bel lt0) trodAll_mk0), rfl, bel.frame _, fun h => by cases h⟩
theorem codeChecks_f0 : (Rows.codeChecksRow.inPlace == Tryd.pinned.checked.prog.inPlace 5) = true := by kernel_rfl
theorem codeChecks_f1 : (Rows.codeChecksRow.unfollowed == Tryd.pinned.checked.prog.unfollowed 5) = true := by kernel_rfl
theorem codeChecks_f2 : (Rows.codeChecksRow.recurses == Tryd.pinned.checked.prog.recurses 5) = true := by kernel_rfl
theorem codeChecks_f3 : (Rows.codeChecksRow.named == Tryd.pinned.checked.prog.varsNamed 5) = true := by kernel_rfl
theorem codeChecks_f4 : laidOutB Tryd.pinned.checked.prog = true := by kernel_rfl
theorem codeChecks_f5 : mapsRowed Tryd.pinned.checked.prog = true := by kernel_rfl
theorem codeChecks_closed : joinedFacts Tryd.pinned.checked.prog 5 Tryd.f5 Rows.codeChecksSpec Rows.codeChecksRow = true := by
  unfold joinedFacts
  rw [codeChecks_f0, codeChecks_f1, codeChecks_f2, codeChecks_f3, codeChecks_f4, codeChecks_f5]
  kernel_rfl
theorem codeChecks_fname : Tryd.pinned.checked.prog.funcNamed "vouch/vouchlaw6.CodeChecks" = some 5 := by kernel_rfl
theorem codeChecks_wrap : Tryd.f5.isWrapper Tryd.pinned.checked.prog Rows.codeChecksRow.wrapper Rows.codeChecksRow.mainSum := by unfold Func.isWrapper; first | (rw [if_pos (by decide +kernel)]; kernel_rfl) | (rw [if_neg (by decide +kernel)]; exact ⟨rfl, rfl⟩)
theorem codeChecks_goes : false = Rows.codeChecksRow.goesBy Tryd.pinned.checked.prog := by kernel_rfl
theorem codeChecks_main : Tryd.pinned.checked.prog.mainIs = some (true, "93ee754c12ca7ffad98bdd674fcd2a87e04ef1a615fc2e8ab3699855e99ce39c".toList) := by kernel_rfl
theorem codeChecks_looks : false = Tryd.pinned.checked.prog.looks [] := by kernel_rfl
theorem codeChecks_wf : Rows.codeChecksRow.wfByText (OpenSpec.ofChange Rows.codeChecksSpec) = true := by kernel_rfl
theorem codeChecks_row : Rows.CodeChecksSaid :=
  OpenClaim.holds_of_wide 5 Tryd.f5 rfl rfl rfl rfl rfl rfl rfl ⟨rfl, rfl, rfl, rfl, rfl⟩ rfl rfl rfl rfl rfl codeChecks_fname Tryd.func5 codeChecks_closed
    (of_decide_eq_true (by kernel_rfl)) codeChecks_wrap
    (fun os started H enc _ => codeChecks_lifted os started H enc)
theorem codeChecks_holds : Rows.CodeChecksCardSaid :=
  Claim7.holds_tied_plain_at .later [] [.data, .data, .data, .data, .data, .data, .data, .data, .data, .data, .data] true (true, "93ee754c12ca7ffad98bdd674fcd2a87e04ef1a615fc2e8ab3699855e99ce39c") false
    codeChecks_row (fun _ h => by cases h) codeChecks_wf (fun _ h => by cases h) codeChecks_row_tie rfl ⟨rfl, rfl⟩ codeChecks_main rfl
    (fun f fn hf hfn => by
      obtain rfl : f = 5 := Option.some.inj (codeChecks_fname.symm.trans hf) |>.symm
      obtain rfl : fn = Tryd.f5 := (Option.some.inj (Tryd.func5.symm.trans hfn)).symm
      exact ⟨codeChecks_looks, fun j t ht => by
        rw [Tryd.params5] at ht
        have h3 : t = 22 := by
          rcases j with _ | j
          · simp at ht; subst ht; simp
          simp at ht
        rcases h3 with rfl
        · exact (show Tryd.prog.wantsStandIn 22 = false by kernel_rfl)⟩)
    codeChecks_goes
end Go.Proofs.YtbhldmfnhlifpaaDoor
