/- How arguments read: numbers, bools, bytes. -/
import Derived.Test.YtndhabhlajldeaaRows
import Derived.WalkKit
import Derived.ProofKit
import Derived.OpenShut
import Derived.ChangeOld
import Derived.ChangeSlices
import Derived.Lib.SmallJoins
import Derived.SizedLaws
import Derived.Deep.MidRow
import Derived.Test.YtndhabhlajldeaaBkb
namespace Go.Proofs.Ytndhabhlajldeaa
open Go.ChangeShapes Go.WideShapes Go.ChangeAt Go.RowKit
theorem Try.own : ownKnob Try.prog.godebug = none := by kernel_rfl
theorem Try.laidOut : laidOutB Try.prog = true := by kernel_rfl
set_option maxRecDepth 100000 in
theorem openI {H : Type} {enc : TypeId × Value → H} {W : World} {base b0 : Nat} {r : Reach} {spare : Nat → Bool} {held : Bool} {v : Value} {d : DataW H} {ps : List MemPlace}
    (hv : Value.okWide Try.prog W r b0 3 v) (h : DataW.Trod enc Try.prog W base spare held 3 v d ps) : ∃ n : Int, v = .int .i64 n ∧ -9223372036854775808 ≤ n ∧ n ≤ 9223372036854775807 := by
  obtain ⟨n, rfl⟩ := okWide_int Try.underlying3 hv
  obtain ⟨fuel, hf⟩ := h
  obtain ⟨m, hm, _, hw⟩ := DataW.trod_int Try.underlying3 hf
  simp [Value.cells] at hm
  subst hm
  exact ⟨n, rfl, bounds_i64 hw⟩
set_option maxRecDepth 100000 in
theorem openBo {W : World} {b0 : Nat} {r : Reach} {v : Value} (hv : Value.okWide Try.prog W r b0 4 v) : ∃ o : Bool, v = .bool o := okWide_bool Try.underlying4 hv
theorem c8b : Try.prog.cellsOf 5 = 1 := by kernel_rfl
/-- a row of bytes in memory -/
theorem ints_bl {W : World} {a : Addr} {len cap : Nat} {zs : List Int} (hl : len ≤ cap) (hm : len ≤ 140737488355328) (hcell : ∀ i, i < len → W.cell? (a.add i) = some (.int .u8 (zs.getD i 0))) (h8 : ∀ i, 0 ≤ zs.getD i 0 ∧ zs.getD i 0 < 256) :
    ∃ l : List Nat, BL (fun _ => True) W (.slice (some a) len cap) l ∧ Byt l ∧ l.length ≤ 140737488355328 := by
  refine ⟨(List.range len).map fun i => (zs.getD i 0).toNat, ⟨by rw [bV_len, Nat.mul_one], some a, cap, by simp, by simpa using hl, by simp; omega, fun e => (by cases e), fun hn => ?_⟩, fun x hx => ?_, by simp; omega⟩
  · simp at hn
    obtain ⟨ab, ao, spot⟩ := a
    have hspot : spot = none := by simpa [Addr.add] using World.cell?_spot (hcell 0 (by omega))
    subst hspot
    have h0 := hcell 0 hn
    rw [Addr.add_mid] at h0
    refine ⟨ab, ao, rfl, trivial, World.block_lt_of_cell? W _ h0, fun i c hc => ?_⟩
    obtain ⟨x, hx, rfl⟩ := bV_inv hc
    have hi : i < len := by have := (List.getElem?_eq_some_iff.1 hx).1; simpa using this
    rw [List.getElem?_map, List.getElem?_range hi] at hx
    simp at hx
    have hc := hcell i hi
    rw [Addr.add_mid] at hc
    rw [hc, ← hx]
    have := h8 i
    rw [List.getD_eq_getElem?_getD] at this ⊢
    rw [Int.toNat_of_nonneg this.1]
  · obtain ⟨i, _, rfl⟩ := List.mem_map.1 hx
    have := h8 i
    omega
set_option maxRecDepth 100000 in
theorem openBL {H : Type} {enc : TypeId × Value → H} {W : World} {base b0 : Nat} {r : Reach} {held : Bool} {v : Value} {d : DataW H} {ps : List MemPlace}
    (hv : Value.okWide Try.prog W r b0 22 v) (h : DataW.Trod enc Try.prog W base (fun _ => true) held 22 v d ps) (hs : ∀ k ∈ d.weights Try.prog 22, k ≤ reachBytes) :
    ∃ l : List Nat, BL (fun _ => True) W v l ∧ Byt l ∧ l.length ≤ 140737488355328 := by
  obtain ⟨a1, len, cap, rfl⟩ := okWide_slice Try.underlying22 hv
  obtain ⟨fuel, hf⟩ := h
  have hln : len ≤ 140737488355328 := by
    rcases DataW.trod_slice Try.underlying22 hf with ⟨hcs, hx⟩ | ⟨a, len', cap', elems, rest, n, _, hcs, hx, hb, hl, hm, hlen, hel, _, _⟩
    · simp [Value.cells] at hcs
      obtain ⟨rfl, rfl, rfl⟩ := hcs
      omega
    · simp [Value.cells] at hcs
      obtain ⟨rfl, rfl, rfl⟩ := hcs
      have hd : d = .slice (elems.map (·.1)) (rest.map (·.1)) := congrArg Prod.fst hx
      have hk := hs (elems.length * Try.prog.bytesOf 5 + rest.length * Try.prog.bytesOf 5) (by
        rw [hd]
        simp only [DataW.weights, Try.underlying22, List.mem_cons, List.mem_append]
        left
        simp [Nat.add_mul])
      have hb8 : Try.prog.bytesOf 5 = 1 := by kernel_rfl
      rw [hb8] at hk
      unfold reachBytes at hk
      omega
  rcases open_ints Try.underlying22 Try.underlying5 c8b hf with ⟨hcs, hx⟩ | ⟨a, len', cap', zs, hcs, _, hl, hm, hz, hx, hcell, hwz⟩
  · simp [Value.cells] at hcs
    obtain ⟨rfl, rfl, rfl⟩ := hcs
    exact ⟨[], BL.nil _ _, (fun x hx => by cases hx), by simp⟩
  · simp [Value.cells] at hcs
    obtain ⟨rfl, rfl, rfl⟩ := hcs
    simp only [if_true] at hz
    have h8 : ∀ i, 0 ≤ zs.getD i 0 ∧ zs.getD i 0 < 256 := fun i => by
      have := range_u8 hwz i; rw [← List.getD_eq_getElem?_getD] at this; omega
    exact ints_bl hl hln (fun i hi => hcell i (by omega)) h8
end Go.Proofs.Ytndhabhlajldeaa
