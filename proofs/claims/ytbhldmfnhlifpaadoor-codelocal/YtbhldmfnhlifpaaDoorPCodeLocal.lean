/- CodeLocal: for every three slices of bytes, in whatever world in which the tables of names (and three tables of Go's library) hold what the program's text lays into them, the call returns true, and each argument reads behind it as before; the tables are tied to the text (a card). No condition besides. -/
import Derived.Test.YtbhldmfnhlifpaaDoorCfr
import Derived.Test.YtbhldmfnhlifpaaDoorCeb
import Derived.Test.YtbhldmfnhlifpaaDoorCards
import Derived.Test.YtbhldmfnhlifpaaDoorTie
import Derived.SevenTiedAt
namespace Go.Proofs.YtbhldmfnhlifpaaDoor
open Go.ChangeShapes Go.WideShapes Go.ChangeAt Go.RowKit
set_option maxRecDepth 100000 in
theorem codeLocal_lifted (os : Os) (started : os.Started) (H : Type) (enc : TypeId × Value → H) :
    ReturnsInHanded {} Tryd.checked os 8 .any (fun w args => (Rows.codeLocalSpec.pre enc Tryd.prog Tryd.f8 [] false w args ∧ laidMetH Tryd.prog laidA w) ∧ sizedMet enc Tryd.prog Tryd.f8 (OpenSpec.ofChange Rows.codeLocalSpec) false w args)
      (Rows.codeLocalSpec.post enc Tryd.prog Tryd.f8 false true false false) := by
  refine returnsInHanded_of_change_and (C := Tryd.checked) (X := fun w _ => laidMetH Tryd.prog laidA w) (fun _ _ _ hh h => h.of_heap hh) Tryd.own started (by kernel_rfl) Tryd.func8
    (ChangeSpec.witness_shaped (enc := enc) (C := Tryd.checked) (os := os) (X := fun w _ => laidMetH Tryd.prog laidA w) false (World.doorLaid Tryd.prog 400 os) #[.slice none 0 0, .slice none 0 0, .slice none 0 0] 8 rfl (World.shaped_of_RefB (by kernel_rfl) (by kernel_rfl)) (by kernel_rfl) (by kernel_rfl) (by kernel_rfl) (door_met os _)) ?_
  intro W base args ds gs before hval0 hW _ _ hL _
  have hval : ∀ (j : Nat) t v, Tryd.f8.params[j]? = some t → args[j]? = some v → Value.okWide Tryd.prog W .any base t v := hval0
  have hW' := hW
  obtain ⟨p, q, hA0, hV, rfl, hfz, hnd⟩ := hW
  have hA : DataW.TrodAll enc Tryd.prog W 0 (fun _ => true) true Tryd.f8.params.toList args.toList ds p := hA0
  rw [Tryd.params8] at hA hval
  obtain ⟨v0, vs0, d0, ds0, p0, q0, hargs, rfl, rfl, h0, r0⟩ := trodAll_cons hA
  obtain ⟨v1, vs1, d1, ds1, p1, q1, hargs1, rfl, rfl, h1, r1⟩ := trodAll_cons r0
  obtain ⟨v2, vs2, d2, ds2, p2, q2, hargs2, rfl, rfl, h2, r2⟩ := trodAll_cons r1
  obtain ⟨rfl, rfl, rfl⟩ := trodAll_nil r2
  obtain rfl : args = #[v0, v1, v2] := by cases args; simp_all
  obtain ⟨rfl, rfl⟩ := trodVars_none hV
  have k0 := h0
  have lt0 : ∀ x ∈ p0, x.block < W.heap.size := by obtain ⟨m, hm⟩ := k0; exact DataW.trod_lt m _ _ _ hm
  have k1 := h1
  have lt1 : ∀ x ∈ p1, x.block < W.heap.size := by obtain ⟨m, hm⟩ := k1; exact DataW.trod_lt m _ _ _ hm
  have k2 := h2
  have lt2 : ∀ x ∈ p2, x.block < W.heap.size := by obtain ⟨m, hm⟩ := k2; exact DataW.trod_lt m _ _ _ hm
  obtain ⟨L0, b0, hv0, hc0, hl0⟩ := openBy (hval 0 22 v0 rfl rfl) h0
  obtain ⟨L1, b1, hv1, hc1, hl1⟩ := openBy (hval 1 22 v1 rfl rfl) h1
  obtain ⟨L2, b2, hv2, hc2, hl2⟩ := openBy (hval 2 22 v2 rfl rfl) h2
  clear hA0 hval0
  refine (codeLocal_walk W (nms_of_laid hL) v0 L0 b0 hl0 hv0 hc0 v1 L1 b1 hl1 hv1 hc1 v2 L2 b2 hl2 hv2 hc2).mono fun e W' ⟨he, bel⟩ => ?_
  subst he
  exact ⟨_, rfl, _, _, _, [], _, [], hW', trodAll_mk1 (shut_bool Tryd.underlying4 _), (trodAll_cons_mk (Below.trod Tryd.laidOut (by kernel_rfl) (of_decide_eq_true (by kernel_rfl)) k0 bel lt0) (trodAll_cons_mk (Below.trod Tryd.laidOut (by kernel_rfl) (of_decide_eq_true (by kernel_rfl)) k1 bel lt1) (trodAll_cons_mk (Below.trod Tryd.laidOut (by kernel_rfl) (of_decide_eq_true (by kernel_rfl)) k2 bel lt2) trodAll_mk0))), rfl, bel.frame _, fun h => by cases h⟩
theorem codeLocal_f0 : (Rows.codeLocalRow.inPlace == Tryd.pinned.checked.prog.inPlace 8) = true := by kernel_rfl
theorem codeLocal_f1 : (Rows.codeLocalRow.unfollowed == Tryd.pinned.checked.prog.unfollowed 8) = true := by kernel_rfl
theorem codeLocal_f2 : (Rows.codeLocalRow.recurses == Tryd.pinned.checked.prog.recurses 8) = true := by kernel_rfl
theorem codeLocal_f3 : (Rows.codeLocalRow.named == Tryd.pinned.checked.prog.varsNamed 8) = true := by kernel_rfl
theorem codeLocal_f4 : laidOutB Tryd.pinned.checked.prog = true := by kernel_rfl
theorem codeLocal_f5 : mapsRowed Tryd.pinned.checked.prog = true := by kernel_rfl
theorem codeLocal_closed : joinedFacts Tryd.pinned.checked.prog 8 Tryd.f8 Rows.codeLocalSpec Rows.codeLocalRow = true := by
  unfold joinedFacts
  rw [codeLocal_f0, codeLocal_f1, codeLocal_f2, codeLocal_f3, codeLocal_f4, codeLocal_f5]
  kernel_rfl
theorem codeLocal_fname : Tryd.pinned.checked.prog.funcNamed "vouch/vouchlaw6.CodeLocal" = some 8 := by kernel_rfl
theorem codeLocal_wrap : Tryd.f8.isWrapper Tryd.pinned.checked.prog Rows.codeLocalRow.wrapper Rows.codeLocalRow.mainSum := by unfold Func.isWrapper; first | (rw [if_pos (by decide +kernel)]; kernel_rfl) | (rw [if_neg (by decide +kernel)]; exact ⟨rfl, rfl⟩)
theorem codeLocal_goes : false = Rows.codeLocalRow.goesBy Tryd.pinned.checked.prog := by kernel_rfl
theorem codeLocal_main : Tryd.pinned.checked.prog.mainIs = some (true, "93ee754c12ca7ffad98bdd674fcd2a87e04ef1a615fc2e8ab3699855e99ce39c".toList) := by kernel_rfl
theorem codeLocal_looks : false = Tryd.pinned.checked.prog.looks [] := by kernel_rfl
theorem codeLocal_wf : Rows.codeLocalRow.wfByText (OpenSpec.ofChange Rows.codeLocalSpec) = true := by kernel_rfl
theorem codeLocal_row : Rows.CodeLocalSaid :=
  OpenClaim.holds_of_wide 8 Tryd.f8 rfl rfl rfl rfl rfl rfl rfl ⟨rfl, rfl, rfl, rfl, rfl⟩ rfl rfl rfl rfl rfl codeLocal_fname Tryd.func8 codeLocal_closed
    (of_decide_eq_true (by kernel_rfl)) codeLocal_wrap
    (fun os started H enc _ => codeLocal_lifted os started H enc)
theorem codeLocal_holds : Rows.CodeLocalCardSaid :=
  Claim7.holds_tied_plain_at .later [] [.data, .data, .data, .data, .data, .data, .data, .data, .data, .data, .data] true (true, "93ee754c12ca7ffad98bdd674fcd2a87e04ef1a615fc2e8ab3699855e99ce39c") false
    codeLocal_row (fun _ h => by cases h) codeLocal_wf (fun _ h => by cases h) codeLocal_row_tie rfl ⟨rfl, rfl⟩ codeLocal_main rfl
    (fun f fn hf hfn => by
      obtain rfl : f = 8 := Option.some.inj (codeLocal_fname.symm.trans hf) |>.symm
      obtain rfl : fn = Tryd.f8 := (Option.some.inj (Tryd.func8.symm.trans hfn)).symm
      exact ⟨codeLocal_looks, fun j t ht => by
        rw [Tryd.params8] at ht
        have h3 : t = 22 := by
          rcases j with _ | j
          · simp at ht; subst ht; simp
          rcases j with _ | j
          · simp at ht; subst ht; simp
          rcases j with _ | j
          · simp at ht; subst ht; simp
          simp at ht
        rcases h3 with rfl
        · exact (show Tryd.prog.wantsStandIn 22 = false by kernel_rfl)⟩)
    codeLocal_goes
end Go.Proofs.YtbhldmfnhlifpaaDoor
