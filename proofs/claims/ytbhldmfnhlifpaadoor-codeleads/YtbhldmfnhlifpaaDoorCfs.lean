/- How an argument that is an instruction reads. -/
import Derived.Test.YtbhldmfnhlifpaaDoorCfr
import Derived.OpenShut
namespace Go.Proofs.YtbhldmfnhlifpaaDoor
open Go.ChangeShapes Go.WideShapes Go.ChangeAt Go.RowKit
theorem cIns4 : Tryd.prog.cellsOf 25 = 4 := by kernel_rfl
theorem cIntS : Tryd.prog.cellsOf 3 = 1 := by kernel_rfl
theorem cSlS : Tryd.prog.cellsOf 22 = 1 := by kernel_rfl
theorem uIns : ∃ fs : Array Field, Tryd.prog.underlying 25 = some (.struct fs) ∧ fs.size = 4 ∧ ∃ f0 f1 f2 f3, fs[0]? = some f0 ∧ fs[1]? = some f1 ∧ fs[2]? = some f2 ∧ fs[3]? = some f3 ∧ f0.type = 3 ∧ f0.offset = 0 ∧ f1.type = 3 ∧ f1.offset = 1 ∧ f2.type = 22 ∧ f2.offset = 2 ∧ f3.type = 3 ∧ f3.offset = 3 := ⟨_, Tryd.underlying25, by kernel_rfl, _, _, _, _, rfl, rfl, rfl, rfl, rfl, rfl, rfl, rfl, rfl, rfl, rfl, rfl⟩
theorem okWide_str {P : Program} {w : World} {r : Reach} {base : Nat} {t : TypeId} {fs : Array Field} {v : Value} (ht : P.underlying t = some (.struct fs)) (h : Value.okWide P w r base t v) : ∃ cs, v = .agg cs ∧ cs.size = P.cellsOf t := by
  simp only [Value.okWide, ht] at h
  obtain ⟨cs, h1, h2, _⟩ := h
  exact ⟨cs, h1, h2⟩
/-- bytes within what is handed in -/
theorem openByE {H : Type} {enc : TypeId × Value → H} {W : World} {base fuel : Nat} {held : Bool} {cs : List Value} {x : DataW H × List MemPlace} (h : DataW.trod enc Tryd.prog W base (fun _ => true) held fuel 22 cs = some x) :
    ∃ v L b, cs = [v] ∧ BytesOf W v L b ∧ (∀ ad cap, v = .slice ad L cap → L ≤ cap) ∧ L ≤ 9223372036854775807 := by
  rcases open_ints Tryd.underlying22 Tryd.underlying5 c8b h with ⟨hcs, hx⟩ | ⟨a, len, cap, zs, hcs, _, hl, hm, hz, hx, hcell, hwz⟩
  · exact ⟨_, 0, fun _ => 0, hcs, ⟨none, 0, rfl, fun _ => (by show 0 < 256; omega), fun _ => ⟨rfl, rfl⟩, fun h => absurd rfl h⟩, fun _ _ e => (by cases e; omega), by omega⟩
  · simp only [if_true] at hz
    have h8 : ∀ i, 0 ≤ zs.getD i 0 ∧ zs.getD i 0 < 256 := fun i => by
      have := range_u8 hwz i; rw [← List.getD_eq_getElem?_getD] at this; omega
    refine ⟨_, len, fun j => (zs.getD j 0).toNat, hcs, ⟨some a, cap, rfl, fun j => (by have := h8 j; show (zs.getD j 0).toNat < 256; omega), fun e => (by cases e), fun hne => ?_⟩, fun ad c e => (by cases e; exact hl), by unfold maxLen at hm; omega⟩
    obtain ⟨ab, ao, spot⟩ := a
    have hspot : spot = none := by simpa [Addr.add] using World.cell?_spot (hcell 0 (by omega))
    subst hspot
    refine ⟨ab, ao, rfl, fun i hi => ?_⟩
    have hc := hcell i (by omega)
    rw [Addr.add_mid] at hc
    rw [show (((zs.getD i 0).toNat : Nat) : Int) = zs.getD i 0 by have := h8 i; omega]
    exact hc
set_option maxRecDepth 100000 in
theorem openIn {H : Type} {enc : TypeId × Value → H} {W : World} {base b0 : Nat} {r : Reach} {held : Bool} {v : Value} {d : DataW H} {ps : List MemPlace}
    (hv : Value.okWide Tryd.prog W r b0 25 v) (h : DataW.Trod enc Tryd.prog W base (fun _ => true) held 25 v d ps) :
    ∃ (x0 C x3 : Int) (u : Value) (L : Nat) (b : Nat → Nat), v = .agg #[.int .i64 x0, .int .i64 C, u, .int .i64 x3] ∧ L ≤ 9223372036854775807 ∧ BytesOf W u L b ∧ (∀ ad cap, u = .slice ad L cap → L ≤ cap) := by
  obtain ⟨fs, hu, hsz, f0, f1, f2, f3, e0, e1, e2, e3, t0, o0, t1, o1, t2, o2, t3, o3⟩ := uIns
  obtain ⟨cs, rfl, hcs⟩ := okWide_str hu hv
  rw [cIns4] at hcs
  obtain ⟨fuel, hf⟩ := h
  obtain ⟨xs, k, _, _, _, hxl, hxe⟩ := DataW.trod_struct hu hf
  have q0 := hxe 0 f0 e0
  have q1 := hxe 1 f1 e1
  have q2 := hxe 2 f2 e2
  have q3 := hxe 3 f3 e3
  rw [t0, o0, cIntS, List.getElem?_eq_getElem (show 0 < xs.length by omega)] at q0
  rw [t1, o1, cIntS, List.getElem?_eq_getElem (show 1 < xs.length by omega)] at q1
  rw [t2, o2, cSlS, List.getElem?_eq_getElem (show 2 < xs.length by omega)] at q2
  rw [t3, o3, cIntS, List.getElem?_eq_getElem (show 3 < xs.length by omega)] at q3
  obtain ⟨x0, hx0, _, _⟩ := DataW.trod_int Tryd.underlying3 q0
  obtain ⟨C, hx1, _, _⟩ := DataW.trod_int Tryd.underlying3 q1
  obtain ⟨x3, hx3, _, _⟩ := DataW.trod_int Tryd.underlying3 q3
  obtain ⟨u, L, b, hx2, hB, hc, hL⟩ := openByE q2
  refine ⟨x0, C, x3, u, L, b, ?_, hL, hB, hc⟩
  have g0 : cs[0]? = some (.int .i64 x0) := by have := congrArg (·[0]?) hx0; simpa [Value.cells, List.getElem?_take, List.getElem?_drop] using this
  have g1 : cs[1]? = some (.int .i64 C) := by have := congrArg (·[0]?) hx1; simpa [Value.cells, List.getElem?_take, List.getElem?_drop] using this
  have g2 : cs[2]? = some u := by have := congrArg (·[0]?) hx2; simpa [Value.cells, List.getElem?_take, List.getElem?_drop] using this
  have g3 : cs[3]? = some (.int .i64 x3) := by have := congrArg (·[0]?) hx3; simpa [Value.cells, List.getElem?_take, List.getElem?_drop] using this
  congr 1
  apply Array.ext_getElem?
  intro i
  by_cases hi : i < 4
  · have h4 : i = 0 ∨ i = 1 ∨ i = 2 ∨ i = 3 := by omega
    rcases h4 with rfl | rfl | rfl | rfl
    · rw [g0]; rfl
    · rw [g1]; rfl
    · rw [g2]; rfl
    · rw [g3]; rfl
  · rw [Array.getElem?_eq_none (by omega), Array.getElem?_eq_none (by simp; omega)]
end Go.Proofs.YtbhldmfnhlifpaaDoor
