/- How an argument that is a list of slices of bytes reads. -/
import Derived.Test.YteggikojfkmbkaaDoorKfc
import Derived.Test.YteggikojfkmbkaaDoorVp
import Derived.ChangeSlices
import Derived.OpenShut
import Derived.SizedLaws
namespace Go.Proofs.YteggikojfkmbkaaDoor
open Go.ChangeShapes Go.WideShapes Go.ChangeAt Go.RowKit
theorem cSlb : Tryd.prog.cellsOf 29 = 1 := by kernel_rfl
theorem bU8b : Tryd.prog.bytesOf 5 = 1 := by kernel_rfl
/-- bytes in a list -/
theorem openSegE {H : Type} {enc : TypeId × Value → H} {W : World} {base fuel : Nat} {held : Bool} {cs : List Value} {x : DataW H × List MemPlace} (h : DataW.trod enc Tryd.prog W base (fun _ => true) held fuel 29 cs = some x) :
    ∃ ad cap, ∃ l : List Nat, cs = [.slice ad l.length cap] ∧ (∀ i, l.getD i 0 < 256) ∧ Seg W (.slice ad l.length cap) l ∧ (l.length = 0 ∨ ∃ k, l.length ≤ k ∧ k ∈ x.1.weights Tryd.prog 29) := by
  rcases open_ints Tryd.underlying29 Tryd.underlying5 c8 h with ⟨hcs, hx⟩ | ⟨a, len, cap, zs, hcs, _, hl, hm, hz, hx, hcell, hwz⟩
  · exact ⟨none, 0, [], hcs, fun i => by simp, ⟨none, 0, rfl, by simp, by unfold maxLen; omega, fun h => absurd rfl h, fun _ => rfl⟩, Or.inl rfl⟩
  · simp only [if_true] at hz
    have hlen : ((zs.take len).map Int.toNat).length = len := by simp; omega
    have hat : ∀ i, i < len → ((zs.take len).map Int.toNat).getD i 0 = (zs.getD i 0).toNat := by
      intro i hi
      simp [List.getD_eq_getElem?_getD, hi, List.getElem?_eq_getElem (show i < zs.length by omega)]
    refine ⟨some a, cap, (zs.take len).map Int.toNat, by rw [hlen]; exact hcs, fun i => ?_, ⟨some a, cap, rfl, by omega, hm, fun hne => ?_, fun h => (by cases h)⟩, Or.inr ⟨zs.length, by omega, ?_⟩⟩
    · by_cases hi : i < len
      · rw [hat i hi]; have := range_u8 hwz i; rw [← List.getD_eq_getElem?_getD] at this; omega
      · rw [List.getD_eq_getElem?_getD, List.getElem?_eq_none (by rw [hlen]; omega)]; simp
    · have h0 : 0 < len := by
        rcases Nat.eq_zero_or_pos len with h | h
        · rw [h] at hne; simp at hne
        · exact h
      obtain ⟨ab, ao, spot⟩ := a
      have hspot : spot = none := by simpa [Addr.add] using World.cell?_spot (hcell 0 (by omega))
      subst hspot
      refine ⟨ab, ao, rfl, fun i hi => ?_⟩
      rw [hlen] at hi
      have hc := hcell i (by omega)
      rw [Addr.add_mid] at hc
      rw [hat i hi]
      have := range_u8 hwz i
      rw [← List.getD_eq_getElem?_getD] at this
      rw [show (((zs.getD i 0).toNat : Nat) : Int) = zs.getD i 0 by omega]
      exact hc
    · rw [hx]
      simp only [DataW.weights, Tryd.underlying29, bU8b, lits]
      simp
      left; omega
theorem wAll_mem {H : Type} {P : Program} {e : TypeId} : ∀ {l : List (DataW H)} {d : DataW H}, d ∈ l → ∀ n ∈ d.weights P e, n ∈ DataW.weightsAll P e l
  | d' :: r, d, hd, n, hn => by
    simp only [DataW.weightsAll, List.mem_append]
    rcases List.mem_cons.1 hd with rfl | h
    · exact Or.inl hn
    · exact Or.inr (wAll_mem h n hn)
set_option maxRecDepth 100000 in
theorem openPcs {H : Type} {enc : TypeId × Value → H} {W : World} {base b0 : Nat} {r : Reach} {held : Bool} {v : Value} {d : DataW H} {ps : List MemPlace}
    (hv : Value.okWide Tryd.prog W r b0 26 v) (h : DataW.Trod enc Tryd.prog W base (fun _ => true) held 26 v d ps) (hs : ∀ k ∈ d.weights Tryd.prog 26, k ≤ reachBytes) :
    ∃ (la : Option Addr) (n cap : Nat) (ad : Nat → Option Addr) (cp : Nat → Nat) (Ls : Nat → List Nat), v = .slice la n cap ∧ n ≤ 140737488355328 ∧ PcAt W la n (fun i => .slice (ad i) (Ls i).length (cp i)) ∧ (∀ i, i < n → (Ls i).length ≤ 140737488355328) ∧ (∀ i, i < n → Seg W (.slice (ad i) (Ls i).length (cp i)) (Ls i)) ∧ ∀ i j, (Ls i).getD j 0 < 256 := by
  obtain ⟨a1, len, cap, rfl⟩ := okWide_slice Tryd.underlying26 hv
  obtain ⟨fuel, hf⟩ := h
  rcases DataW.trod_slice Tryd.underlying26 hf with ⟨hcs, hx⟩ | ⟨a, len', cap', elems, rest, n, _, hcs, hx, hb, hl, hm, hlen, hel, _, _⟩
  · simp [Value.cells] at hcs
    obtain ⟨rfl, rfl, rfl⟩ := hcs
    exact ⟨none, 0, 0, fun _ => none, fun _ => 0, fun _ => [], rfl, by omega, fun h => absurd rfl h, fun i hi => absurd hi (by omega), fun i hi => absurd hi (by omega), fun i j => by simp⟩
  · simp [Value.cells] at hcs
    obtain ⟨rfl, rfl, rfl⟩ := hcs
    rw [cSlb] at hel
    have hd : d = .slice (elems.map (·.1)) (rest.map (·.1)) := congrArg Prod.fst hx
    have hln : len ≤ 140737488355328 := by
      have hk := hs (elems.length * Tryd.prog.bytesOf 29 + rest.length * Tryd.prog.bytesOf 29) (by
        rw [hd]
        simp only [DataW.weights, Tryd.underlying26, List.mem_cons, List.mem_append]
        left
        simp [Nat.add_mul])
      have hb24 : Tryd.prog.bytesOf 29 = 24 := by kernel_rfl
      rw [hb24] at hk
      unfold reachBytes at hk
      omega
    have get : ∀ i, i < len → ∃ p : Option Addr × Nat × List Nat, W.cell? (a.add (i * 1)) = some (.slice p.1 p.2.2.length p.2.1) ∧ (∀ j, p.2.2.getD j 0 < 256) ∧ Seg W (.slice p.1 p.2.2.length p.2.1) p.2.2 ∧ p.2.2.length ≤ 140737488355328 := by
      intro i hi
      have he := hel i hi
      have hil : i < elems.length := by omega
      rw [List.getElem?_eq_getElem hil, Option.bind_eq_some_iff] at he
      obtain ⟨cs, hc, ht⟩ := he
      obtain ⟨_, hl2, hcell⟩ := World.cells?_some hc
      obtain ⟨ad, cp, l, hx1, hB, hS, hw⟩ := openSegE ht
      have e0 := hcell 0 (by omega)
      rw [hx1] at e0
      refine ⟨(ad, cp, l), by simpa [Addr.add] using e0, hB, hS, ?_⟩
      show l.length ≤ 140737488355328
      rcases hw with h0 | ⟨k2, hk, hkw⟩
      · omega
      · refine Nat.le_trans hk (Nat.le_trans (hs k2 ?_) (by unfold reachBytes; omega))
        rw [hd]
        simp only [DataW.weights, Tryd.underlying26, List.mem_cons, List.mem_append]
        exact Or.inr (Or.inl (wAll_mem (List.mem_map.2 ⟨elems[i], List.getElem_mem hil, rfl⟩) _ hkw))
    let f : Nat → Option Addr × Nat × List Nat := fun i => if h : i < len then (get i h).choose else (none, 0, [])
    have hf2 : ∀ i, i < len → W.cell? (a.add (i * 1)) = some (.slice (f i).1 (f i).2.2.length (f i).2.1) ∧ (∀ j, (f i).2.2.getD j 0 < 256) ∧ Seg W (.slice (f i).1 (f i).2.2.length (f i).2.1) (f i).2.2 ∧ (f i).2.2.length ≤ 140737488355328 := by
      intro i hi
      have := (get i hi).choose_spec
      rw [show f i = (get i hi).choose from dif_pos hi]
      exact this
    refine ⟨_, len, cap, fun i => (f i).1, fun i => (f i).2.1, fun i => (f i).2.2, rfl, hln, fun hne => ?_, fun i hi => (hf2 i hi).2.2.2, fun i hi => (hf2 i hi).2.2.1, fun i j => ?_⟩
    · obtain ⟨ab, ao, spot⟩ := a
      have hspot : spot = none := by simpa [Addr.add] using World.cell?_spot (hf2 0 (by omega)).1
      subst hspot
      refine ⟨ab, ao, rfl, fun i hi => ?_⟩
      have := (hf2 i hi).1
      rwa [Addr.add_mid, Nat.mul_one] at this
    · by_cases hi : i < len
      · exact (hf2 i hi).2.1 j
      · show ((f i).2.2).getD j 0 < 256
        rw [show f i = (none, 0, []) from dif_neg hi]; simp
end Go.Proofs.YteggikojfkmbkaaDoor
