/- OpAll: every row, in its order, also from within; the tables are tied to the text (a card). No condition besides. -/
import Derived.Test.YtbhldmfnhlifpaaDoorCfr
import Derived.Test.YtbhldmfnhlifpaaDoorOam
import Derived.Test.YtbhldmfnhlifpaaDoorCards
import Derived.Test.YtbhldmfnhlifpaaDoorTie
import Derived.SevenTiedAt
import Derived.JoinedCond
namespace Go.Proofs.YtbhldmfnhlifpaaDoor
open Go.ChangeShapes Go.WideShapes Go.ChangeAt Go.RowKit
set_option maxRecDepth 100000 in
theorem opAll_lifted (os : Os) (started : os.Started) (H : Type) (enc : TypeId × Value → H) :
    ReturnsInHanded {} Tryd.checked os 26 .any (fun w args => (Rows.opAllSpec.pre enc Tryd.prog Tryd.f26 [] false w args ∧ laidMetH Tryd.prog laidA w) ∧ sizedMet enc Tryd.prog Tryd.f26 (OpenSpec.ofChange Rows.opAllSpec) false w args)
      (Rows.opAllSpec.post enc Tryd.prog Tryd.f26 false true false false) := by
  refine returnsInHanded_of_change_and (C := Tryd.checked) (X := fun w _ => laidMetH Tryd.prog laidA w) (fun _ _ _ hh h => h.of_heap hh) Tryd.own started (by kernel_rfl) Tryd.func26
    (ChangeSpec.witness_shaped (enc := enc) (C := Tryd.checked) (os := os) (X := fun w _ => laidMetH Tryd.prog laidA w) false (World.doorLaid Tryd.prog 400 os) #[.int .i64 0, .int .i64 0] 8 rfl (World.shaped_of_RefB (by kernel_rfl) (by kernel_rfl)) (by kernel_rfl) (by kernel_rfl) (by kernel_rfl) (door_met os _)) ?_
  intro W base args ds gs before hval0 hW _ _ hL _
  have hval : ∀ (j : Nat) t v, Tryd.f26.params[j]? = some t → args[j]? = some v → Value.okWide Tryd.prog W .any base t v := hval0
  have hW' := hW
  obtain ⟨p, q, hA0, hV, rfl, hfz, hnd⟩ := hW
  have hA : DataW.TrodAll enc Tryd.prog W 0 (fun _ => true) true Tryd.f26.params.toList args.toList ds p := hA0
  rw [Tryd.params26] at hA hval
  obtain ⟨v0, vs0, d0, ds0, p0, q0, hargs, rfl, rfl, h0, r0⟩ := trodAll_cons hA
  obtain ⟨v1, vs1, d1, ds1, p1, q1, hargs1, rfl, rfl, h1, r1⟩ := trodAll_cons r0
  obtain ⟨rfl, rfl, rfl⟩ := trodAll_nil r1
  obtain rfl : args = #[v0, v1] := by cases args; simp_all
  obtain ⟨rfl, rfl⟩ := trodVars_none hV
  have k0 := h0
  have lt0 : ∀ x ∈ p0, x.block < W.heap.size := by obtain ⟨m, hm⟩ := k0; exact DataW.trod_lt m _ _ _ hm
  have k1 := h1
  have lt1 : ∀ x ∈ p1, x.block < W.heap.size := by obtain ⟨m, hm⟩ := k1; exact DataW.trod_lt m _ _ _ hm
  obtain ⟨z0, rfl⟩ := okWide_int Tryd.underlying3 (hval 0 3 v0 rfl rfl)
  obtain ⟨z1, rfl⟩ := okWide_int Tryd.underlying3 (hval 1 3 v1 rfl rfl)
  clear hA0 hval0
  refine (opAll_walk W (nms_of_laid hL) z0 z1).mono fun e W' ⟨he, bel⟩ => ?_
  subst he
  exact ⟨_, rfl, _, _, _, [], _, [], hW', trodAll_mk1 (shut_bool Tryd.underlying4 _), (trodAll_cons_mk (Below.trod Tryd.laidOut (by kernel_rfl) (of_decide_eq_true (by kernel_rfl)) k0 bel lt0) (trodAll_cons_mk (Below.trod Tryd.laidOut (by kernel_rfl) (of_decide_eq_true (by kernel_rfl)) k1 bel lt1) trodAll_mk0)), rfl, bel.frame _, fun h => by cases h⟩
set_option maxRecDepth 100000 in
theorem opAll_small {H : Type} (enc : TypeId × Value → H) (w : World) (args : Array Value) : (Rows.OpenSpec.upto Rows.opAllSpec).pre enc Tryd.prog Tryd.f26 [] false w args ↔ Rows.opAllSpec.pre enc Tryd.prog Tryd.f26 [] false w args := by
  rw [OpenSpec.pre_some (k := Rows.uptoSmall) rfl]
  constructor
  · rintro ⟨ds, gs, before, hW, hc, _⟩
    exact ⟨ds, gs, before, hW, hc⟩
  · rintro ⟨ds, gs, before, hW, hc⟩
    refine ⟨ds, gs, before, hW, hc, ?_⟩
    obtain ⟨p, q, hA0, hV, rfl, hfz, hnd⟩ := hW
    have hA : DataW.TrodAll enc Tryd.prog w 0 (fun _ => true) true Tryd.f26.params.toList args.toList ds p := hA0
    rw [Tryd.params26] at hA
    obtain ⟨v0, vs0, d0, ds0, p0, q0, hargs, rfl, rfl, h0, r0⟩ := trodAll_cons hA
    obtain ⟨v1, vs1, d1, ds1, p1, q1, hargs1, rfl, rfl, h1, r1⟩ := trodAll_cons r0
    obtain ⟨rfl, rfl, rfl⟩ := trodAll_nil r1
    obtain ⟨rfl, rfl⟩ := trodVars_none hV
    obtain ⟨m0, hm0⟩ := h0
    obtain ⟨m1, hm1⟩ := h1
    obtain ⟨n0, _, e0, _⟩ := DataW.trod_int Tryd.underlying3 hm0
    obtain ⟨n1, _, e1, _⟩ := DataW.trod_int Tryd.underlying3 hm1
    obtain ⟨rfl, rfl⟩ := Prod.mk.inj e0
    obtain ⟨rfl, rfl⟩ := Prod.mk.inj e1
    show Rows.uptoSmall H ([.lit (.int .i64 n0), .lit (.int .i64 n1)] ++ []) = true
    simp [Rows.uptoSmall, Rows.uptoBulkAll, Rows.uptoBulk]
theorem opAllUpto_lifted (os : Os) (started : os.Started) (H : Type) (enc : TypeId × Value → H) (F : Stop.Interp) :
    ReturnsInHanded {} Tryd.checked os 26 .any (fun w args => ((Rows.OpenSpec.upto Rows.opAllSpec).pre enc Tryd.prog Tryd.f26 [] false w args ∧ laidMetH Tryd.prog laidA w) ∧ sizedMet enc Tryd.prog Tryd.f26 (Rows.OpenSpec.upto Rows.opAllSpec) false w args)
      (((Rows.OpenSpec.upto Rows.opAllSpec).at F).post enc Tryd.prog Tryd.f26 false true false false) := by
  have e : (fun w args => ((Rows.OpenSpec.upto Rows.opAllSpec).pre enc Tryd.prog Tryd.f26 [] false w args ∧ laidMetH Tryd.prog laidA w) ∧ sizedMet enc Tryd.prog Tryd.f26 (Rows.OpenSpec.upto Rows.opAllSpec) false w args) = (fun w args => (Rows.opAllSpec.pre enc Tryd.prog Tryd.f26 [] false w args ∧ laidMetH Tryd.prog laidA w) ∧ sizedMet enc Tryd.prog Tryd.f26 (OpenSpec.ofChange Rows.opAllSpec) false w args) :=
    funext fun w => funext fun args => propext ⟨fun ⟨⟨h1, h2⟩, h3⟩ => ⟨⟨(opAll_small enc w args).1 h1, h2⟩, h3⟩, fun ⟨⟨h1, h2⟩, h3⟩ => ⟨⟨(opAll_small enc w args).2 h1, h2⟩, h3⟩⟩
  rw [e]
  exact opAll_lifted os started H enc
end Go.Proofs.YtbhldmfnhlifpaaDoor
