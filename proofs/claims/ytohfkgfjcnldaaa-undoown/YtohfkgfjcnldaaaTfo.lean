/- How arguments read: numbers, lists of steps. -/
import Derived.Test.YtohfkgfjcnldaaaRows
import Derived.WalkKit
import Derived.ProofKit
import Derived.OpenShut
import Derived.ChangeOld
import Derived.ChangeSlices
import Derived.Lib.SmallJoins
import Derived.SizedLaws
import Derived.Deep.MidRow
namespace Go.Proofs.Ytohfkgfjcnldaaa
open Go.ChangeShapes Go.WideShapes Go.ChangeAt Go.RowKit
theorem Try.own : ownKnob Try.prog.godebug = none := by kernel_rfl
theorem Try.laidOut : laidOutB Try.prog = true := by kernel_rfl
set_option maxRecDepth 100000 in
theorem openI {H : Type} {enc : TypeId × Value → H} {W : World} {base b0 : Nat} {r : Reach} {spare : Nat → Bool} {held : Bool} {v : Value} {d : DataW H} {ps : List MemPlace}
    (hv : Value.okWide Try.prog W r b0 3 v) (h : DataW.Trod enc Try.prog W base spare held 3 v d ps) : ∃ n : Int, v = .int .i64 n ∧ -9223372036854775808 ≤ n ∧ n ≤ 9223372036854775807 := by
  obtain ⟨n, rfl⟩ := okWide_int Try.underlying3 hv
  obtain ⟨fuel, hf⟩ := h
  obtain ⟨m, hm, _, hw⟩ := DataW.trod_int Try.underlying3 hf
  simp [Value.cells] at hm
  subst hm
  exact ⟨n, rfl, bounds_i64 hw⟩
/-- one step as it lies in memory -/
structure OpR where
  kd : Int
  tw : Bool
  k : Int
  v : Int
def OpAt (W : World) (g a : Nat) (o : OpR) : Prop := W.cell? ⟨g, a, none⟩ = some (.int .i64 o.kd) ∧ W.cell? ⟨g, a + 1, none⟩ = some (.bool o.tw) ∧ W.cell? ⟨g, a + 2, none⟩ = some (.int .i64 o.k) ∧ W.cell? ⟨g, a + 3, none⟩ = some (.int .i64 o.v)
def OpOk (o : OpR) : Prop := -9223372036854775808 ≤ o.k ∧ o.k ≤ 9223372036854775807
def OpsAt (W : World) (v : Value) (n : Nat) (o : Nat → OpR) : Prop := ∃ ad cap, v = .slice ad n cap ∧ (0 < n → ∃ g a, ad = some ⟨g, a, none⟩ ∧ ∀ i, i < n → OpAt W g (a + i * 4) (o i) ∧ OpOk (o i))
theorem cellsI : Try.prog.cellsOf 3 = 1 := by kernel_rfl
theorem cellsB : Try.prog.cellsOf 4 = 1 := by kernel_rfl
theorem cellsOp : Try.prog.cellsOf 30 = 4 := by kernel_rfl
set_option maxRecDepth 100000 in
theorem openOps {H : Type} {enc : TypeId × Value → H} {W : World} {base b0 : Nat} {r : Reach} {held : Bool} {v : Value} {d : DataW H} {ps : List MemPlace}
    (hv : Value.okWide Try.prog W r b0 22 v) (h : DataW.Trod enc Try.prog W base (fun _ => true) held 22 v d ps) (hs : ∀ k ∈ d.weights Try.prog 22, k ≤ reachBytes) :
    ∃ n o, OpsAt W v n o ∧ n ≤ 4398046511104 := by
  obtain ⟨a1, len, cap, rfl⟩ := okWide_slice Try.underlying22 hv
  obtain ⟨fuel, hf⟩ := h
  rcases DataW.trod_slice Try.underlying22 hf with ⟨hcs, hx⟩ | ⟨a, len', cap', elems, rest, n, _, hcs, hx, hb, hl, hm, hlen, hel, _, _⟩
  · simp [Value.cells] at hcs
    obtain ⟨rfl, rfl, rfl⟩ := hcs
    exact ⟨0, fun _ => ⟨0, false, 0, 0⟩, ⟨none, 0, rfl, fun e => absurd e (by omega)⟩, by omega⟩
  · simp [Value.cells] at hcs
    obtain ⟨rfl, rfl, rfl⟩ := hcs
    rw [cellsOp] at hel
    have hd : d = .slice (elems.map (·.1)) (rest.map (·.1)) := congrArg Prod.fst hx
    have hln : len ≤ 4398046511104 := by
      have hk := hs (elems.length * Try.prog.bytesOf 30 + rest.length * Try.prog.bytesOf 30) (by
        rw [hd]
        simp only [DataW.weights, Try.underlying22, List.mem_cons, List.mem_append]
        left
        simp [Nat.add_mul])
      have hb32 : Try.prog.bytesOf 30 = 32 := by kernel_rfl
      rw [hb32] at hk
      unfold reachBytes at hk
      omega
    by_cases hne : len = 0
    · exact ⟨len, fun _ => ⟨0, false, 0, 0⟩, ⟨some a, cap, rfl, fun e => absurd hne (by omega)⟩, hln⟩
    have at1 : ∀ i, i < len → ∃ o : OpR, (W.cell? ((a.add (i * 4)).add 0) = some (.int .i64 o.kd) ∧ W.cell? ((a.add (i * 4)).add 1) = some (.bool o.tw) ∧ W.cell? ((a.add (i * 4)).add 2) = some (.int .i64 o.k) ∧ W.cell? ((a.add (i * 4)).add 3) = some (.int .i64 o.v)) ∧ OpOk o := by
      intro i hi
      have he := hel i hi
      rw [List.getElem?_eq_getElem (show i < elems.length by omega), Option.bind_eq_some_iff] at he
      obtain ⟨cs, hc, ht⟩ := he
      obtain ⟨_, hl3, hcell⟩ := World.cells?_some hc
      obtain ⟨xs, m, _, _, hcl, hxs, hfs⟩ := DataW.trod_struct Try.underlying30 ht
      have hx4 : xs.length = 4 := hxs
      have g0 : DataW.trod enc Try.prog W base (fun _ => true) held m 3 ((cs.drop 0).take (Try.prog.cellsOf 3)) = xs[0]? := hfs 0 _ rfl
      have g1 : DataW.trod enc Try.prog W base (fun _ => true) held m 4 ((cs.drop 1).take (Try.prog.cellsOf 4)) = xs[1]? := hfs 1 _ rfl
      have g2 : DataW.trod enc Try.prog W base (fun _ => true) held m 3 ((cs.drop 2).take (Try.prog.cellsOf 3)) = xs[2]? := hfs 2 _ rfl
      have g3 : DataW.trod enc Try.prog W base (fun _ => true) held m 3 ((cs.drop 3).take (Try.prog.cellsOf 3)) = xs[3]? := hfs 3 _ rfl
      rw [cellsI, List.getElem?_eq_getElem (show 0 < xs.length by omega)] at g0
      rw [cellsB, List.getElem?_eq_getElem (show 1 < xs.length by omega)] at g1
      rw [cellsI, List.getElem?_eq_getElem (show 2 < xs.length by omega)] at g2
      rw [cellsI, List.getElem?_eq_getElem (show 3 < xs.length by omega)] at g3
      have one : ∀ (k : Nat) (u : Value), (cs.drop k).take 1 = [u] → cs[k]? = some u := fun k u e => by
        have : ((cs.drop k).take 1)[0]? = some u := by rw [e]; rfl
        simpa using this
      obtain ⟨z0, y0, _, _⟩ := DataW.trod_int Try.underlying3 g0
      obtain ⟨z1, y1, _⟩ := DataW.trod_bool Try.underlying4 g1
      obtain ⟨z2, y2, _, hw⟩ := DataW.trod_int Try.underlying3 g2
      obtain ⟨z3, y3, _, _⟩ := DataW.trod_int Try.underlying3 g3
      refine ⟨⟨z0, z1, z2, z3⟩, ⟨?_, ?_, ?_, ?_⟩, bounds_i64 hw⟩
      · rw [hcell 0 (by omega)]; exact one 0 _ y0
      · rw [hcell 1 (by omega)]; exact one 1 _ y1
      · rw [hcell 2 (by omega)]; exact one 2 _ y2
      · rw [hcell 3 (by omega)]; exact one 3 _ y3
    obtain ⟨ab, ao, spot⟩ := a
    have hspot : spot = none := by
      obtain ⟨o, ho, _⟩ := at1 0 (by omega)
      simpa [Addr.add] using World.cell?_spot ho.1
    subst hspot
    refine ⟨len, fun i => if h : i < len then (at1 i h).choose else ⟨0, false, 0, 0⟩, ⟨some ⟨ab, ao, none⟩, cap, rfl, fun _ => ⟨ab, ao, rfl, fun i hi => ?_⟩⟩, hln⟩
    simp only [hi, dif_pos, OpAt]
    have h9 := (at1 i hi).choose_spec
    simpa only [Addr.add_mid, Nat.add_zero] using h9
end Go.Proofs.Ytohfkgfjcnldaaa
