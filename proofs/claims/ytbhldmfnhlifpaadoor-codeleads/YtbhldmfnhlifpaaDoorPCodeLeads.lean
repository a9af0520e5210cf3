/- CodeLeads: for every instruction, in whatever world in which the tables of names (and three tables of Go's library) hold what the program's text lays into them, the call returns true, and the argument reads behind it as before; the tables are tied to the text (a card). No condition besides. -/
import Derived.Test.YtbhldmfnhlifpaaDoorCfs
import Derived.Test.YtbhldmfnhlifpaaDoorCfr
import Derived.Test.YtbhldmfnhlifpaaDoorCej
import Derived.Test.YtbhldmfnhlifpaaDoorCards
import Derived.Test.YtbhldmfnhlifpaaDoorTie
import Derived.SevenTiedAt
namespace Go.Proofs.YtbhldmfnhlifpaaDoor
open Go.ChangeShapes Go.WideShapes Go.ChangeAt Go.RowKit
set_option maxRecDepth 100000 in
theorem codeLeads_lifted (os : Os) (started : os.Started) (H : Type) (enc : TypeId × Value → H) :
    ReturnsInHanded {} Tryd.checked os 4 .any (fun w args => (Rows.codeLeadsSpec.pre enc Tryd.prog Tryd.f4 [] false w args ∧ laidMetH Tryd.prog laidA w) ∧ sizedMet enc Tryd.prog Tryd.f4 (OpenSpec.ofChange Rows.codeLeadsSpec) false w args)
      (Rows.codeLeadsSpec.post enc Tryd.prog Tryd.f4 false true false false) := by
  refine returnsInHanded_of_change_and (C := Tryd.checked) (X := fun w _ => laidMetH Tryd.prog laidA w) (fun _ _ _ hh h => h.of_heap hh) Tryd.own started (by kernel_rfl) Tryd.func4
    (ChangeSpec.witness_shaped (enc := enc) (C := Tryd.checked) (os := os) (X := fun w _ => laidMetH Tryd.prog laidA w) false (World.doorLaid Tryd.prog 400 os) #[.agg #[.int .i64 0, .int .i64 0, .slice none 0 0, .int .i64 0]] 8 rfl (World.shaped_of_RefB (by kernel_rfl) (by kernel_rfl)) (by kernel_rfl) (by kernel_rfl) (by kernel_rfl) (door_met os _)) ?_
  intro W base args ds gs before hval0 hW _ _ hL _
  have hval : ∀ (j : Nat) t v, Tryd.f4.params[j]? = some t → args[j]? = some v → Value.okWide Tryd.prog W .any base t v := hval0
  have hW' := hW
  obtain ⟨p, q, hA0, hV, rfl, hfz, hnd⟩ := hW
  have hA : DataW.TrodAll enc Tryd.prog W 0 (fun _ => true) true Tryd.f4.params.toList args.toList ds p := hA0
  rw [Tryd.params4] at hA hval
  obtain ⟨v0, vs0, d0, ds0, p0, q0, hargs, rfl, rfl, h0, r0⟩ := trodAll_cons hA
  obtain ⟨rfl, rfl, rfl⟩ := trodAll_nil r0
  obtain rfl : args = #[v0] := by cases args; simp_all
  obtain ⟨rfl, rfl⟩ := trodVars_none hV
  have k0 := h0
  have lt0 : ∀ x ∈ p0, x.block < W.heap.size := by obtain ⟨m, hm⟩ := k0; exact DataW.trod_lt m _ _ _ hm
  obtain ⟨x0, C0, y0, u0, L0, b0, rfl, hl0, hv0, hc0⟩ := openIn (hval 0 25 v0 rfl rfl) h0
  clear hA0 hval0
  refine (codeLeads_walk W (nms_of_laid hL) x0 C0 y0 u0 L0 b0 hl0 hv0 hc0).mono fun e W' ⟨he, bel⟩ => ?_
  subst he
  exact ⟨_, rfl, _, _, _, [], _, [], hW', trodAll_mk1 (shut_bool Tryd.underlying4 _), (trodAll_cons_mk (Below.trod Tryd.laidOut (by kernel_rfl) (of_decide_eq_true (by kernel_rfl)) k0 bel lt0) trodAll_mk0), rfl, bel.frame _, fun h => by cases h⟩
theorem codeLeads_f0 : (Rows.codeLeadsRow.inPlace == Tryd.pinned.checked.prog.inPlace 4) = true := by kernel_rfl
theorem codeLeads_f1 : (Rows.codeLeadsRow.unfollowed == Tryd.pinned.checked.prog.unfollowed 4) = true := by kernel_rfl
theorem codeLeads_f2 : (Rows.codeLeadsRow.recurses == Tryd.pinned.checked.prog.recurses 4) = true := by kernel_rfl
theorem codeLeads_f3 : (Rows.codeLeadsRow.named == Tryd.pinned.checked.prog.varsNamed 4) = true := by kernel_rfl
theorem codeLeads_f4 : laidOutB Tryd.pinned.checked.prog = true := by kernel_rfl
theorem codeLeads_f5 : mapsRowed Tryd.pinned.checked.prog = true := by kernel_rfl
theorem codeLeads_closed : joinedFacts Tryd.pinned.checked.prog 4 Tryd.f4 Rows.codeLeadsSpec Rows.codeLeadsRow = true := by
  unfold joinedFacts
  rw [codeLeads_f0, codeLeads_f1, codeLeads_f2, codeLeads_f3, codeLeads_f4, codeLeads_f5]
  kernel_rfl
theorem codeLeads_fname : Tryd.pinned.checked.prog.funcNamed "vouch/vouchlaw6.CodeLeads" = some 4 := by kernel_rfl
theorem codeLeads_wrap : Tryd.f4.isWrapper Tryd.pinned.checked.prog Rows.codeLeadsRow.wrapper Rows.codeLeadsRow.mainSum := by unfold Func.isWrapper; first | (rw [if_pos (by decide +kernel)]; kernel_rfl) | (rw [if_neg (by decide +kernel)]; exact ⟨rfl, rfl⟩)
theorem codeLeads_goes : false = Rows.codeLeadsRow.goesBy Tryd.pinned.checked.prog := by kernel_rfl
theorem codeLeads_main : Tryd.pinned.checked.prog.mainIs = some (true, "93ee754c12ca7ffad98bdd674fcd2a87e04ef1a615fc2e8ab3699855e99ce39c".toList) := by kernel_rfl
theorem codeLeads_looks : false = Tryd.pinned.checked.prog.looks [] := by kernel_rfl
theorem codeLeads_wf : Rows.codeLeadsRow.wfByText (OpenSpec.ofChange Rows.codeLeadsSpec) = true := by kernel_rfl
theorem codeLeads_row : Rows.CodeLeadsSaid :=
  OpenClaim.holds_of_wide 4 Tryd.f4 rfl rfl rfl rfl rfl rfl rfl ⟨rfl, rfl, rfl, rfl, rfl⟩ rfl rfl rfl rfl rfl codeLeads_fname Tryd.func4 codeLeads_closed
    (of_decide_eq_true (by kernel_rfl)) codeLeads_wrap
    (fun os started H enc _ => codeLeads_lifted os started H enc)
theorem codeLeads_holds : Rows.CodeLeadsCardSaid :=
  Claim7.holds_tied_plain_at .later [] [.data, .data, .data, .data, .data, .data, .data, .data, .data, .data, .data] true (true, "93ee754c12ca7ffad98bdd674fcd2a87e04ef1a615fc2e8ab3699855e99ce39c") false
    codeLeads_row (fun _ h => by cases h) codeLeads_wf (fun _ h => by cases h) codeLeads_row_tie rfl ⟨rfl, rfl⟩ codeLeads_main rfl
    (fun f fn hf hfn => by
      obtain rfl : f = 4 := Option.some.inj (codeLeads_fname.symm.trans hf) |>.symm
      obtain rfl : fn = Tryd.f4 := (Option.some.inj (Tryd.func4.symm.trans hfn)).symm
      exact ⟨codeLeads_looks, fun j t ht => by
        rw [Tryd.params4] at ht
        have h3 : t = 25 := by
          rcases j with _ | j
          · simp at ht; subst ht; simp
          simp at ht
        rcases h3 with rfl
        · exact (show Tryd.prog.wantsStandIn 25 = false by kernel_rfl)⟩)
    codeLeads_goes
end Go.Proofs.YtbhldmfnhlifpaaDoor
