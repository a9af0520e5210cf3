/- CodeJumps: what a jump made by hand leads to; the tables are tied to the text (a card). No condition besides. -/
import Derived.Test.YtbhldmfnhlifpaaDoorCfi
import Derived.Test.YtbhldmfnhlifpaaDoorCfr
import Derived.Test.YtbhldmfnhlifpaaDoorCef
import Derived.Test.YtbhldmfnhlifpaaDoorCards
import Derived.Test.YtbhldmfnhlifpaaDoorTie
import Derived.SevenTiedAt
namespace Go.Proofs.YtbhldmfnhlifpaaDoor
open Go.ChangeShapes Go.WideShapes Go.ChangeAt Go.RowKit
set_option maxRecDepth 100000 in
theorem codeJumps_lifted (os : Os) (started : os.Started) (H : Type) (enc : TypeId × Value → H) :
    ReturnsInHanded {} Tryd.checked os 11 .any (fun w args => (Rows.codeJumpsSpec.pre enc Tryd.prog Tryd.f11 [] false w args ∧ laidMetH Tryd.prog laidA w) ∧ sizedMet enc Tryd.prog Tryd.f11 (OpenSpec.ofChange Rows.codeJumpsSpec) false w args)
      (Rows.codeJumpsSpec.post enc Tryd.prog Tryd.f11 false true false false) := by
  refine returnsInHanded_of_change_and (C := Tryd.checked) (X := fun w _ => laidMetH Tryd.prog laidA w) (fun _ _ _ hh h => h.of_heap hh) Tryd.own started (by kernel_rfl) Tryd.func11
    (ChangeSpec.witness_shaped (enc := enc) (C := Tryd.checked) (os := os) (X := fun w _ => laidMetH Tryd.prog laidA w) false (World.doorLaid Tryd.prog 400 os) #[.int .i64 0, .slice none 0 0] 8 rfl (World.shaped_of_RefB (by kernel_rfl) (by kernel_rfl)) (by kernel_rfl) (by kernel_rfl) (by kernel_rfl) (door_met os _)) ?_
  intro W base args ds gs before hval0 hW _ _ hL _
  have hval : ∀ (j : Nat) t v, Tryd.f11.params[j]? = some t → args[j]? = some v → Value.okWide Tryd.prog W .any base t v := hval0
  have hW' := hW
  obtain ⟨p, q, hA0, hV, rfl, hfz, hnd⟩ := hW
  have hA : DataW.TrodAll enc Tryd.prog W 0 (fun _ => true) true Tryd.f11.params.toList args.toList ds p := hA0
  rw [Tryd.params11] at hA hval
  obtain ⟨v0, vs0, d0, ds0, p0, q0, hargs, rfl, rfl, h0, r0⟩ := trodAll_cons hA
  obtain ⟨v1, vs1, d1, ds1, p1, q1, hargs1, rfl, rfl, h1, r1⟩ := trodAll_cons r0
  obtain ⟨rfl, rfl, rfl⟩ := trodAll_nil r1
  obtain rfl : args = #[v0, v1] := by cases args; simp_all
  obtain ⟨rfl, rfl⟩ := trodVars_none hV
  have k0 := h0
  have lt0 : ∀ x ∈ p0, x.block < W.heap.size := by obtain ⟨m, hm⟩ := k0; exact DataW.trod_lt m _ _ _ hm
  have k1 := h1
  have lt1 : ∀ x ∈ p1, x.block < W.heap.size := by obtain ⟨m, hm⟩ := k1; exact DataW.trod_lt m _ _ _ hm
  obtain ⟨z0, rfl⟩ := okWide_int Tryd.underlying3 (hval 0 3 v0 rfl rfl)
  obtain ⟨m1, e1, hm1, hv1⟩ := openIs (hval 1 33 v1 rfl rfl) h1
  clear hA0 hval0
  refine (codeJumps_walk W (nms_of_laid hL) z0 v1 m1 e1 hm1 hv1).mono fun e W' ⟨he, bel⟩ => ?_
  subst he
  exact ⟨_, rfl, _, _, _, [], _, [], hW', trodAll_mk1 (shut_bool Tryd.underlying4 _), (trodAll_cons_mk (Below.trod Tryd.laidOut (by kernel_rfl) (of_decide_eq_true (by kernel_rfl)) k0 bel lt0) (trodAll_cons_mk (Below.trod Tryd.laidOut (by kernel_rfl) (of_decide_eq_true (by kernel_rfl)) k1 bel lt1) trodAll_mk0)), rfl, bel.frame _, fun h => by cases h⟩
theorem codeJumps_f0 : (Rows.codeJumpsRow.inPlace == Tryd.pinned.checked.prog.inPlace 11) = true := by kernel_rfl
theorem codeJumps_f1 : (Rows.codeJumpsRow.unfollowed == Tryd.pinned.checked.prog.unfollowed 11) = true := by kernel_rfl
theorem codeJumps_f2 : (Rows.codeJumpsRow.recurses == Tryd.pinned.checked.prog.recurses 11) = true := by kernel_rfl
theorem codeJumps_f3 : (Rows.codeJumpsRow.named == Tryd.pinned.checked.prog.varsNamed 11) = true := by kernel_rfl
theorem codeJumps_f4 : laidOutB Tryd.pinned.checked.prog = true := by kernel_rfl
theorem codeJumps_f5 : mapsRowed Tryd.pinned.checked.prog = true := by kernel_rfl
theorem codeJumps_closed : joinedFacts Tryd.pinned.checked.prog 11 Tryd.f11 Rows.codeJumpsSpec Rows.codeJumpsRow = true := by
  unfold joinedFacts
  rw [codeJumps_f0, codeJumps_f1, codeJumps_f2, codeJumps_f3, codeJumps_f4, codeJumps_f5]
  kernel_rfl
theorem codeJumps_fname : Tryd.pinned.checked.prog.funcNamed "vouch/vouchlaw6.CodeJumps" = some 11 := by kernel_rfl
theorem codeJumps_wrap : Tryd.f11.isWrapper Tryd.pinned.checked.prog Rows.codeJumpsRow.wrapper Rows.codeJumpsRow.mainSum := by unfold Func.isWrapper; first | (rw [if_pos (by decide +kernel)]; kernel_rfl) | (rw [if_neg (by decide +kernel)]; exact ⟨rfl, rfl⟩)
theorem codeJumps_goes : false = Rows.codeJumpsRow.goesBy Tryd.pinned.checked.prog := by kernel_rfl
theorem codeJumps_main : Tryd.pinned.checked.prog.mainIs = some (true, "93ee754c12ca7ffad98bdd674fcd2a87e04ef1a615fc2e8ab3699855e99ce39c".toList) := by kernel_rfl
theorem codeJumps_looks : false = Tryd.pinned.checked.prog.looks [] := by kernel_rfl
theorem codeJumps_wf : Rows.codeJumpsRow.wfByText (OpenSpec.ofChange Rows.codeJumpsSpec) = true := by kernel_rfl
theorem codeJumps_row : Rows.CodeJumpsSaid :=
  OpenClaim.holds_of_wide 11 Tryd.f11 rfl rfl rfl rfl rfl rfl rfl ⟨rfl, rfl, rfl, rfl, rfl⟩ rfl rfl rfl rfl rfl codeJumps_fname Tryd.func11 codeJumps_closed
    (of_decide_eq_true (by kernel_rfl)) codeJumps_wrap
    (fun os started H enc _ => codeJumps_lifted os started H enc)
theorem codeJumps_holds : Rows.CodeJumpsCardSaid :=
  Claim7.holds_tied_plain_at .later [] [.data, .data, .data, .data, .data, .data, .data, .data, .data, .data, .data] true (true, "93ee754c12ca7ffad98bdd674fcd2a87e04ef1a615fc2e8ab3699855e99ce39c") false
    codeJumps_row (fun _ h => by cases h) codeJumps_wf (fun _ h => by cases h) codeJumps_row_tie rfl ⟨rfl, rfl⟩ codeJumps_main rfl
    (fun f fn hf hfn => by
      obtain rfl : f = 11 := Option.some.inj (codeJumps_fname.symm.trans hf) |>.symm
      obtain rfl : fn = Tryd.f11 := (Option.some.inj (Tryd.func11.symm.trans hfn)).symm
      exact ⟨codeJumps_looks, fun j t ht => by
        rw [Tryd.params11] at ht
        have h3 : t = 33 ∨ t = 3 := by
          rcases j with _ | j
          · simp at ht; subst ht; simp
          rcases j with _ | j
          · simp at ht; subst ht; simp
          simp at ht
        rcases h3 with rfl | rfl
        · exact (show Tryd.prog.wantsStandIn 33 = false by kernel_rfl)
        · exact (show Tryd.prog.wantsStandIn 3 = false by kernel_rfl)⟩)
    codeJumps_goes
end Go.Proofs.YtbhldmfnhlifpaaDoor
