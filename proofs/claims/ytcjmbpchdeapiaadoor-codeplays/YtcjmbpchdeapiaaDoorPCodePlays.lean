/- CodePlays: Scan, All, Starts and Check of any bytes, changed in place between the calls, answer what the document says, and All goes through what it tells; the tables are tied to the text (a card). No condition besides. -/
import Derived.Test.YtcjmbpchdeapiaaDoorCpfM
import Derived.Test.YtcjmbpchdeapiaaDoorCfr
import Derived.Test.YtcjmbpchdeapiaaDoorCpc
import Derived.Test.YtcjmbpchdeapiaaDoorCards
import Derived.Test.YtcjmbpchdeapiaaDoorTie
import Derived.SevenTiedAt
namespace Go.Proofs.YtcjmbpchdeapiaaDoor
open Go.ChangeShapes Go.WideShapes Go.ChangeAt Go.RowKit
set_option maxRecDepth 100000 in
theorem codePlays_lifted (os : Os) (started : os.Started) (H : Type) (enc : TypeId × Value → H) :
    ReturnsInHanded {} Tryd.checked os 3 .any (fun w args => (Rows.codePlaysSpec.pre enc Tryd.prog Tryd.f3 [] false w args ∧ laidMetH Tryd.prog laidA w) ∧ sizedMet enc Tryd.prog Tryd.f3 (OpenSpec.ofChange Rows.codePlaysSpec) false w args)
      (Rows.codePlaysSpec.post enc Tryd.prog Tryd.f3 false true false false) := by
  refine returnsInHanded_of_change_and (C := Tryd.checked) (X := fun w _ => laidMetH Tryd.prog laidA w) (fun _ _ _ hh h => h.of_heap hh) Tryd.own started (by kernel_rfl) Tryd.func3
    (ChangeSpec.witness_shaped (enc := enc) (C := Tryd.checked) (os := os) (X := fun w _ => laidMetH Tryd.prog laidA w) false (World.doorLaid Tryd.prog 400 os) #[.slice none 0 0, .slice none 0 0] 8 rfl (World.shaped_of_RefB (by kernel_rfl) (by kernel_rfl)) (by kernel_rfl) (by kernel_rfl) (by kernel_rfl) (door_met os _)) ?_
  intro W base args ds gs before hval0 hW _ _ hL _
  have hval : ∀ (j : Nat) t v, Tryd.f3.params[j]? = some t → args[j]? = some v → Value.okWide Tryd.prog W .any base t v := hval0
  have hW' := hW
  obtain ⟨p, q, hA0, hV, rfl, hfz, hnd⟩ := hW
  have hA : DataW.TrodAll enc Tryd.prog W 0 (fun _ => true) true Tryd.f3.params.toList args.toList ds p := hA0
  rw [Tryd.params3] at hA hval
  obtain ⟨v0, vs0, d0, ds0, p0, q0, hargs, rfl, rfl, h0, r0⟩ := trodAll_cons hA
  obtain ⟨v1, vs1, d1, ds1, p1, q1, hargs1, rfl, rfl, h1, r1⟩ := trodAll_cons r0
  obtain ⟨rfl, rfl, rfl⟩ := trodAll_nil r1
  obtain rfl : args = #[v0, v1] := by cases args; simp_all
  obtain ⟨rfl, rfl⟩ := trodVars_none hV
  have k0 := h0
  have lt0 : ∀ x ∈ p0, x.block < W.heap.size := by obtain ⟨m, hm⟩ := k0; exact DataW.trod_lt m _ _ _ hm
  have k1 := h1
  have lt1 : ∀ x ∈ p1, x.block < W.heap.size := by obtain ⟨m, hm⟩ := k1; exact DataW.trod_lt m _ _ _ hm
  obtain ⟨L0, b0, hv0, _, hl0⟩ := openBy (hval 0 22 v0 rfl rfl) h0
  obtain ⟨ta1, tn1, tc1, y1, z1, rfl, htn1, ht1⟩ := openTn (hval 1 23 v1 rfl rfl) h1
  clear hA0 hval0
  refine (codePlays_walk W (nms_of_laid hL) v0 L0 b0 hl0 hv0 ta1 tn1 tc1 y1 z1 htn1 ht1).mono fun e W' ⟨he, bel⟩ => ?_
  subst he
  exact ⟨_, rfl, _, _, _, [], _, [], hW', trodAll_mk1 (shut_bool Tryd.underlying4 _), (trodAll_cons_mk (Below.trod Tryd.laidOut (by kernel_rfl) (of_decide_eq_true (by kernel_rfl)) k0 bel lt0) (trodAll_cons_mk (Below.trod Tryd.laidOut (by kernel_rfl) (of_decide_eq_true (by kernel_rfl)) k1 bel lt1) trodAll_mk0)), rfl, bel.frame _, fun h => by cases h⟩
theorem codePlays_f0 : (Rows.codePlaysRow.inPlace == Tryd.pinned.checked.prog.inPlace 3) = true := by kernel_rfl
theorem codePlays_f1 : (Rows.codePlaysRow.unfollowed == Tryd.pinned.checked.prog.unfollowed 3) = true := by kernel_rfl
theorem codePlays_f2 : (Rows.codePlaysRow.recurses == Tryd.pinned.checked.prog.recurses 3) = true := by kernel_rfl
theorem codePlays_f3 : (Rows.codePlaysRow.named == Tryd.pinned.checked.prog.varsNamed 3) = true := by kernel_rfl
theorem codePlays_f4 : laidOutB Tryd.pinned.checked.prog = true := by kernel_rfl
theorem codePlays_f5 : mapsRowed Tryd.pinned.checked.prog = true := by kernel_rfl
theorem codePlays_closed : joinedFacts Tryd.pinned.checked.prog 3 Tryd.f3 Rows.codePlaysSpec Rows.codePlaysRow = true := by
  unfold joinedFacts
  rw [codePlays_f0, codePlays_f1, codePlays_f2, codePlays_f3, codePlays_f4, codePlays_f5]
  kernel_rfl
theorem codePlays_fname : Tryd.pinned.checked.prog.funcNamed "vouch/vouchlaw6.CodePlays" = some 3 := by kernel_rfl
theorem codePlays_wrap : Tryd.f3.isWrapper Tryd.pinned.checked.prog Rows.codePlaysRow.wrapper Rows.codePlaysRow.mainSum := by unfold Func.isWrapper; first | (rw [if_pos (by decide +kernel)]; kernel_rfl) | (rw [if_neg (by decide +kernel)]; exact ⟨rfl, rfl⟩)
theorem codePlays_goes : false = Rows.codePlaysRow.goesBy Tryd.pinned.checked.prog := by kernel_rfl
theorem codePlays_main : Tryd.pinned.checked.prog.mainIs = some (true, "fcaa4281201bd7052498e0c4be9735d0e8078be55e951da50a16e7f3daa3427d".toList) := by kernel_rfl
theorem codePlays_looks : false = Tryd.pinned.checked.prog.looks [] := by kernel_rfl
theorem codePlays_wf : Rows.codePlaysRow.wfByText (OpenSpec.ofChange Rows.codePlaysSpec) = true := by kernel_rfl
theorem codePlays_row : Rows.CodePlaysSaid :=
  OpenClaim.holds_of_wide 3 Tryd.f3 rfl rfl rfl rfl rfl rfl rfl ⟨rfl, rfl, rfl, rfl, rfl⟩ rfl rfl rfl rfl rfl codePlays_fname Tryd.func3 codePlays_closed
    (of_decide_eq_true (by kernel_rfl)) codePlays_wrap
    (fun os started H enc _ => codePlays_lifted os started H enc)
theorem codePlays_holds : Rows.CodePlaysCardSaid :=
  Claim7.holds_tied_plain_at .later [] [.data, .data, .data, .data, .data, .data, .data, .data, .data, .data, .data] true (true, "fcaa4281201bd7052498e0c4be9735d0e8078be55e951da50a16e7f3daa3427d") false
    codePlays_row (fun _ h => by cases h) codePlays_wf (fun _ h => by cases h) codePlays_row_tie rfl ⟨rfl, rfl⟩ codePlays_main rfl
    (fun f fn hf hfn => by
      obtain rfl : f = 3 := Option.some.inj (codePlays_fname.symm.trans hf) |>.symm
      obtain rfl : fn = Tryd.f3 := (Option.some.inj (Tryd.func3.symm.trans hfn)).symm
      exact ⟨codePlays_looks, fun j t ht => by
        rw [Tryd.params3] at ht
        have h3 : t = 23 ∨ t = 22 := by
          rcases j with _ | j
          · simp at ht; subst ht; simp
          rcases j with _ | j
          · simp at ht; subst ht; simp
          simp at ht
        rcases h3 with rfl | rfl
        · exact (show Tryd.prog.wantsStandIn 23 = false by kernel_rfl)
        · exact (show Tryd.prog.wantsStandIn 22 = false by kernel_rfl)⟩)
    codePlays_goes
end Go.Proofs.YtcjmbpchdeapiaaDoor
