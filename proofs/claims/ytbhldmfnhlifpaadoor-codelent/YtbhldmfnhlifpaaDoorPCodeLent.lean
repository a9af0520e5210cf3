/- CodeLent: for every two instructions, in whatever world in which the tables of names (and three tables of Go's library) hold what the program's text lays into them, the call returns true, and each argument reads behind it as before; the tables are tied to the text (a card). No condition besides. -/
import Derived.Test.YtbhldmfnhlifpaaDoorCfr
import Derived.OpenShut
import Derived.SizedLaws
import Derived.Test.YtbhldmfnhlifpaaDoorCel
import Derived.Test.YtbhldmfnhlifpaaDoorCards
import Derived.Test.YtbhldmfnhlifpaaDoorTie
import Derived.SevenTiedAt
namespace Go.Proofs.YtbhldmfnhlifpaaDoor
open Go.ChangeShapes Go.WideShapes Go.ChangeAt Go.RowKit
theorem bU8W : Tryd.prog.bytesOf 5 = 1 := by kernel_rfl
theorem cIns4W : Tryd.prog.cellsOf 25 = 4 := by kernel_rfl
theorem cIntSW : Tryd.prog.cellsOf 3 = 1 := by kernel_rfl
theorem cSlSW : Tryd.prog.cellsOf 22 = 1 := by kernel_rfl
theorem uInsW : ∃ fs : Array Field, Tryd.prog.underlying 25 = some (.struct fs) ∧ fs.size = 4 ∧ fs.toList.map (·.type) = [3, 3, 22, 3] ∧ ∃ f0 f1 f2 f3, fs[0]? = some f0 ∧ fs[1]? = some f1 ∧ fs[2]? = some f2 ∧ fs[3]? = some f3 ∧ f0.type = 3 ∧ f0.offset = 0 ∧ f1.type = 3 ∧ f1.offset = 1 ∧ f2.type = 22 ∧ f2.offset = 2 ∧ f3.type = 3 ∧ f3.offset = 3 := ⟨_, Tryd.underlying25, by kernel_rfl, by kernel_rfl, _, _, _, _, rfl, rfl, rfl, rfl, rfl, rfl, rfl, rfl, rfl, rfl, rfl, rfl⟩
theorem okWide_strW {P : Program} {w : World} {r : Reach} {base : Nat} {t : TypeId} {fs : Array Field} {v : Value} (ht : P.underlying t = some (.struct fs)) (h : Value.okWide P w r base t v) : ∃ cs, v = .agg cs ∧ cs.size = P.cellsOf t := by
  simp only [Value.okWide, ht] at h
  obtain ⟨cs, h1, h2, _⟩ := h
  exact ⟨cs, h1, h2⟩
/-- bytes within what is handed in -/
theorem openByEW {H : Type} {enc : TypeId × Value → H} {W : World} {base fuel : Nat} {held : Bool} {cs : List Value} {x : DataW H × List MemPlace} (h : DataW.trod enc Tryd.prog W base (fun _ => true) held fuel 22 cs = some x) :
    ∃ v L b, cs = [v] ∧ BytesOf W v L b ∧ (∀ ad cap, v = .slice ad L cap → L ≤ cap) ∧ (L = 0 ∨ ∃ k, L ≤ k ∧ k ∈ x.1.weights Tryd.prog 22) := by
  rcases open_ints Tryd.underlying22 Tryd.underlying5 c8b h with ⟨hcs, hx⟩ | ⟨a, len, cap, zs, hcs, _, hl, hm, hz, hx, hcell, hwz⟩
  · exact ⟨_, 0, fun _ => 0, hcs, ⟨none, 0, rfl, fun _ => (by show 0 < 256; omega), fun _ => ⟨rfl, rfl⟩, fun h => absurd rfl h⟩, fun _ _ e => (by cases e; omega), Or.inl rfl⟩
  · simp only [if_true] at hz
    have h8 : ∀ i, 0 ≤ zs.getD i 0 ∧ zs.getD i 0 < 256 := fun i => by
      have := range_u8 hwz i; rw [← List.getD_eq_getElem?_getD] at this; omega
    refine ⟨_, len, fun j => (zs.getD j 0).toNat, hcs, ⟨some a, cap, rfl, fun j => (by have := h8 j; show (zs.getD j 0).toNat < 256; omega), fun e => (by cases e), fun hne => ?_⟩, fun ad c e => (by cases e; exact hl), Or.inr ⟨zs.length, by omega, ?_⟩⟩
    rotate_left
    · rw [hx]
      simp only [DataW.weights, Tryd.underlying22, bU8W, lits]
      simp
      left; omega
    obtain ⟨ab, ao, spot⟩ := a
    have hspot : spot = none := by simpa [Addr.add] using World.cell?_spot (hcell 0 (by omega))
    subst hspot
    refine ⟨ab, ao, rfl, fun i hi => ?_⟩
    have hc := hcell i (by omega)
    rw [Addr.add_mid] at hc
    rw [show (((zs.getD i 0).toNat : Nat) : Int) = zs.getD i 0 by have := h8 i; omega]
    exact hc
set_option maxRecDepth 100000 in
theorem openInW {H : Type} {enc : TypeId × Value → H} {W : World} {base b0 : Nat} {r : Reach} {held : Bool} {v : Value} {d : DataW H} {ps : List MemPlace}
    (hv : Value.okWide Tryd.prog W r b0 25 v) (h : DataW.Trod enc Tryd.prog W base (fun _ => true) held 25 v d ps) (hs : ∀ k ∈ d.weights Tryd.prog 25, k ≤ reachBytes) :
    ∃ (x0 C x3 : Int) (u : Value) (L : Nat) (b : Nat → Nat), v = .agg #[.int .i64 x0, .int .i64 C, u, .int .i64 x3] ∧ L ≤ 140737488355328 ∧ BytesOf W u L b ∧ (∀ ad cap, u = .slice ad L cap → L ≤ cap) := by
  obtain ⟨fs, hu, hsz, hty, f0, f1, f2, f3, e0, e1, e2, e3, t0, o0, t1, o1, t2, o2, t3, o3⟩ := uInsW
  obtain ⟨cs, rfl, hcs⟩ := okWide_strW hu hv
  rw [cIns4W] at hcs
  obtain ⟨fuel, hf⟩ := h
  obtain ⟨xs, k, _, hy, _, hxl, hxe⟩ := DataW.trod_struct hu hf
  have hd : d = .agg (xs.map (·.1)) := congrArg Prod.fst hy
  have q0 := hxe 0 f0 e0
  have q1 := hxe 1 f1 e1
  have q2 := hxe 2 f2 e2
  have q3 := hxe 3 f3 e3
  rw [t0, o0, cIntSW, List.getElem?_eq_getElem (show 0 < xs.length by omega)] at q0
  rw [t1, o1, cIntSW, List.getElem?_eq_getElem (show 1 < xs.length by omega)] at q1
  rw [t2, o2, cSlSW, List.getElem?_eq_getElem (show 2 < xs.length by omega)] at q2
  rw [t3, o3, cIntSW, List.getElem?_eq_getElem (show 3 < xs.length by omega)] at q3
  obtain ⟨x0, hx0, _, _⟩ := DataW.trod_int Tryd.underlying3 q0
  obtain ⟨C, hx1, _, _⟩ := DataW.trod_int Tryd.underlying3 q1
  obtain ⟨x3, hx3, _, _⟩ := DataW.trod_int Tryd.underlying3 q3
  obtain ⟨u, L, b, hx2, hB, hc, hw⟩ := openByEW q2
  have hL : L ≤ 140737488355328 := by
    rcases hw with rfl | ⟨k2, hk, hkw⟩
    · omega
    · refine Nat.le_trans hk (Nat.le_trans (hs k2 ?_) (by unfold reachBytes; omega))
      rw [hd]
      simp only [DataW.weights, hu]
      exact DataW.weights_mem_each (j := 2) (t := 22) (d := xs[2].1) (by rw [hty]; rfl) (by rw [List.getElem?_map, List.getElem?_eq_getElem (show 2 < xs.length by omega)]; rfl) _ hkw
  refine ⟨x0, C, x3, u, L, b, ?_, hL, hB, hc⟩
  have g0 : cs[0]? = some (.int .i64 x0) := by have := congrArg (·[0]?) hx0; simpa [Value.cells, List.getElem?_take, List.getElem?_drop] using this
  have g1 : cs[1]? = some (.int .i64 C) := by have := congrArg (·[0]?) hx1; simpa [Value.cells, List.getElem?_take, List.getElem?_drop] using this
  have g2 : cs[2]? = some u := by have := congrArg (·[0]?) hx2; simpa [Value.cells, List.getElem?_take, List.getElem?_drop] using this
  have g3 : cs[3]? = some (.int .i64 x3) := by have := congrArg (·[0]?) hx3; simpa [Value.cells, List.getElem?_take, List.getElem?_drop] using this
  congr 1
  apply Array.ext_getElem?
  intro i
  by_cases hi : i < 4
  · have h4 : i = 0 ∨ i = 1 ∨ i = 2 ∨ i = 3 := by omega
    rcases h4 with rfl | rfl | rfl | rfl
    · rw [g0]; rfl
    · rw [g1]; rfl
    · rw [g2]; rfl
    · rw [g3]; rfl
  · rw [Array.getElem?_eq_none (by omega), Array.getElem?_eq_none (by simp; omega)]
end Go.Proofs.YtbhldmfnhlifpaaDoor
namespace Go.Proofs.YtbhldmfnhlifpaaDoor
open Go.ChangeShapes Go.WideShapes Go.ChangeAt Go.RowKit
set_option maxRecDepth 100000 in
theorem codeLent_lifted (os : Os) (started : os.Started) (H : Type) (enc : TypeId × Value → H) :
    ReturnsInHanded {} Tryd.checked os 14 .any (fun w args => (Rows.codeLentSpec.pre enc Tryd.prog Tryd.f14 [] false w args ∧ laidMetH Tryd.prog laidA w) ∧ sizedMet enc Tryd.prog Tryd.f14 (OpenSpec.ofChange Rows.codeLentSpec) false w args)
      (Rows.codeLentSpec.post enc Tryd.prog Tryd.f14 false true false false) := by
  refine returnsInHanded_of_change_and (C := Tryd.checked) (X := fun w _ => laidMetH Tryd.prog laidA w) (fun _ _ _ hh h => h.of_heap hh) Tryd.own started (by kernel_rfl) Tryd.func14
    (ChangeSpec.witness_shaped (enc := enc) (C := Tryd.checked) (os := os) (X := fun w _ => laidMetH Tryd.prog laidA w) false (World.doorLaid Tryd.prog 400 os) #[.agg #[.int .i64 0, .int .i64 0, .slice none 0 0, .int .i64 0], .agg #[.int .i64 0, .int .i64 0, .slice none 0 0, .int .i64 0]] 8 rfl (World.shaped_of_RefB (by kernel_rfl) (by kernel_rfl)) (by kernel_rfl) (by kernel_rfl) (by kernel_rfl) (door_met os _)) ?_
  intro W base args ds gs before hval0 hW _ hsz0 hL _
  have hval : ∀ (j : Nat) t v, Tryd.f14.params[j]? = some t → args[j]? = some v → Value.okWide Tryd.prog W .any base t v := hval0
  have hW' := hW
  obtain ⟨p, q, hA0, hV, rfl, hfz, hnd⟩ := hW
  have hA : DataW.TrodAll enc Tryd.prog W 0 (fun _ => true) true Tryd.f14.params.toList args.toList ds p := hA0
  rw [Tryd.params14] at hA hval
  obtain ⟨v0, vs0, d0, ds0, p0, q0, hargs, rfl, rfl, h0, r0⟩ := trodAll_cons hA
  obtain ⟨v1, vs1, d1, ds1, p1, q1, hargs1, rfl, rfl, h1, r1⟩ := trodAll_cons r0
  obtain ⟨rfl, rfl, rfl⟩ := trodAll_nil r1
  obtain rfl : args = #[v0, v1] := by cases args; simp_all
  obtain ⟨rfl, rfl⟩ := trodVars_none hV
  have k0 := h0
  have lt0 : ∀ x ∈ p0, x.block < W.heap.size := by obtain ⟨m, hm⟩ := k0; exact DataW.trod_lt m _ _ _ hm
  have k1 := h1
  have lt1 : ∀ x ∈ p1, x.block < W.heap.size := by obtain ⟨m, hm⟩ := k1; exact DataW.trod_lt m _ _ _ hm
  have hwt0 : ∀ k ∈ d0.weights Tryd.prog 25, k ≤ reachBytes := fun k hk => of_decide_eq_true (List.all_eq_true.1 hsz0 k (DataW.weights_mem_each (j := 0) (t := 25) (d := d0) rfl rfl k hk))
  obtain ⟨x0, C0, y0, u0, L0, b0, rfl, hl0, hv0, hc0⟩ := openInW (hval 0 25 v0 rfl rfl) h0 hwt0
  have hwt1 : ∀ k ∈ d1.weights Tryd.prog 25, k ≤ reachBytes := fun k hk => of_decide_eq_true (List.all_eq_true.1 hsz0 k (DataW.weights_mem_each (j := 1) (t := 25) (d := d1) rfl rfl k hk))
  obtain ⟨x1, C1, y1, u1, L1, b1, rfl, hl1, hv1, hc1⟩ := openInW (hval 1 25 v1 rfl rfl) h1 hwt1
  clear hA0 hval0
  refine (codeLent_walk W (nms_of_laid hL) x0 C0 y0 u0 L0 b0 hl0 hv0 hc0 x1 C1 y1 u1 L1 b1 hl1 hv1 hc1).mono fun e W' ⟨he, bel⟩ => ?_
  subst he
  exact ⟨_, rfl, _, _, _, [], _, [], hW', trodAll_mk1 (shut_bool Tryd.underlying4 _), (trodAll_cons_mk (Below.trod Tryd.laidOut (by kernel_rfl) (of_decide_eq_true (by kernel_rfl)) k0 bel lt0) (trodAll_cons_mk (Below.trod Tryd.laidOut (by kernel_rfl) (of_decide_eq_true (by kernel_rfl)) k1 bel lt1) trodAll_mk0)), rfl, bel.frame _, fun h => by cases h⟩
theorem codeLent_f0 : (Rows.codeLentRow.inPlace == Tryd.pinned.checked.prog.inPlace 14) = true := by kernel_rfl
theorem codeLent_f1 : (Rows.codeLentRow.unfollowed == Tryd.pinned.checked.prog.unfollowed 14) = true := by kernel_rfl
theorem codeLent_f2 : (Rows.codeLentRow.recurses == Tryd.pinned.checked.prog.recurses 14) = true := by kernel_rfl
theorem codeLent_f3 : (Rows.codeLentRow.named == Tryd.pinned.checked.prog.varsNamed 14) = true := by kernel_rfl
theorem codeLent_f4 : laidOutB Tryd.pinned.checked.prog = true := by kernel_rfl
theorem codeLent_f5 : mapsRowed Tryd.pinned.checked.prog = true := by kernel_rfl
theorem codeLent_closed : joinedFacts Tryd.pinned.checked.prog 14 Tryd.f14 Rows.codeLentSpec Rows.codeLentRow = true := by
  unfold joinedFacts
  rw [codeLent_f0, codeLent_f1, codeLent_f2, codeLent_f3, codeLent_f4, codeLent_f5]
  kernel_rfl
theorem codeLent_fname : Tryd.pinned.checked.prog.funcNamed "vouch/vouchlaw6.CodeLent" = some 14 := by kernel_rfl
theorem codeLent_wrap : Tryd.f14.isWrapper Tryd.pinned.checked.prog Rows.codeLentRow.wrapper Rows.codeLentRow.mainSum := by unfold Func.isWrapper; first | (rw [if_pos (by decide +kernel)]; kernel_rfl) | (rw [if_neg (by decide +kernel)]; exact ⟨rfl, rfl⟩)
theorem codeLent_goes : false = Rows.codeLentRow.goesBy Tryd.pinned.checked.prog := by kernel_rfl
theorem codeLent_main : Tryd.pinned.checked.prog.mainIs = some (true, "93ee754c12ca7ffad98bdd674fcd2a87e04ef1a615fc2e8ab3699855e99ce39c".toList) := by kernel_rfl
theorem codeLent_looks : false = Tryd.pinned.checked.prog.looks [] := by kernel_rfl
theorem codeLent_wf : Rows.codeLentRow.wfByText (OpenSpec.ofChange Rows.codeLentSpec) = true := by kernel_rfl
theorem codeLent_row : Rows.CodeLentSaid :=
  OpenClaim.holds_of_wide 14 Tryd.f14 rfl rfl rfl rfl rfl rfl rfl ⟨rfl, rfl, rfl, rfl, rfl⟩ rfl rfl rfl rfl rfl codeLent_fname Tryd.func14 codeLent_closed
    (of_decide_eq_true (by kernel_rfl)) codeLent_wrap
    (fun os started H enc _ => codeLent_lifted os started H enc)
theorem codeLent_holds : Rows.CodeLentCardSaid :=
  Claim7.holds_tied_plain_at .later [] [.data, .data, .data, .data, .data, .data, .data, .data, .data, .data, .data] true (true, "93ee754c12ca7ffad98bdd674fcd2a87e04ef1a615fc2e8ab3699855e99ce39c") false
    codeLent_row (fun _ h => by cases h) codeLent_wf (fun _ h => by cases h) codeLent_row_tie rfl ⟨rfl, rfl⟩ codeLent_main rfl
    (fun f fn hf hfn => by
      obtain rfl : f = 14 := Option.some.inj (codeLent_fname.symm.trans hf) |>.symm
      obtain rfl : fn = Tryd.f14 := (Option.some.inj (Tryd.func14.symm.trans hfn)).symm
      exact ⟨codeLent_looks, fun j t ht => by
        rw [Tryd.params14] at ht
        have h3 : t = 25 := by
          rcases j with _ | j
          · simp at ht; subst ht; simp
          rcases j with _ | j
          · simp at ht; subst ht; simp
          simp at ht
        rcases h3 with rfl
        · exact (show Tryd.prog.wantsStandIn 25 = false by kernel_rfl)⟩)
    codeLent_goes
end Go.Proofs.YtbhldmfnhlifpaaDoor
