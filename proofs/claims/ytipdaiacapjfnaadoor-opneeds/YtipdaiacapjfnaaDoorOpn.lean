/- How an argument that is a list of what is asked reads. -/
import Derived.Test.YtipdaiacapjfnaaDoorOpf
import Derived.Test.YtipdaiacapjfnaaDoorNec
import Derived.ChangeSlices
import Derived.OpenShut
import Derived.SizedLaws
namespace Go.Proofs.YtipdaiacapjfnaaDoor
open Go.ChangeShapes Go.WideShapes Go.ChangeAt Go.RowKit
theorem cAsk : Tryd.prog.cellsOf 41 = 2 := by kernel_rfl
theorem cI64 : Tryd.prog.cellsOf 3 = 1 := by kernel_rfl
theorem cSl : Tryd.prog.cellsOf 39 = 1 := by kernel_rfl
theorem cU8 : Tryd.prog.cellsOf 5 = 1 := by kernel_rfl
theorem bU8 : Tryd.prog.bytesOf 5 = 1 := by kernel_rfl
theorem uAsk : ∃ fs : Array Field, Tryd.prog.underlying 41 = some (.struct fs) ∧ fs.size = 2 ∧ fs.toList.map (·.type) = [3, 39] ∧ ∃ f0 f1, fs[0]? = some f0 ∧ fs[1]? = some f1 ∧ f0.type = 3 ∧ f0.offset = 0 ∧ f1.type = 39 ∧ f1.offset = 1 := ⟨_, Tryd.underlying41, by kernel_rfl, by kernel_rfl, _, _, rfl, rfl, rfl, rfl, rfl, rfl⟩
/-- bytes in a list -/
theorem openBy {H : Type} {enc : TypeId × Value → H} {W : World} {base fuel : Nat} {held : Bool} {cs : List Value} {x : DataW H × List MemPlace} (h : DataW.trod enc Tryd.prog W base (fun _ => true) held fuel 39 cs = some x) :
    ∃ v m b, cs = [v] ∧ BytesOf W v m b ∧ (m = 0 ∨ ∃ k, m ≤ k ∧ k ∈ x.1.weights Tryd.prog 39) := by
  rcases open_ints Tryd.underlying39 Tryd.underlying5 cU8 h with ⟨hcs, hx⟩ | ⟨a, len, cap, zs, hcs, _, hl, hm, hz, hx, hcell, hwz⟩
  · exact ⟨_, 0, fun _ => 0, hcs, ⟨none, 0, rfl, fun _ => (by show 0 < 256; omega), fun _ => ⟨rfl, rfl⟩, fun h => absurd rfl h⟩, Or.inl rfl⟩
  · simp only [if_true] at hz
    refine ⟨_, len, fun j => (zs.getD j 0).toNat, hcs, ⟨_, cap, rfl, fun j => ?_, fun e => (by cases e), fun hne => ?_⟩, Or.inr ⟨zs.length, by omega, ?_⟩⟩
    · have := range_u8 hwz j; rw [← List.getD_eq_getElem?_getD] at this; dsimp only; omega
    · obtain ⟨ab, ao, spot⟩ := a
      have hspot : spot = none := by simpa [Addr.add] using World.cell?_spot (hcell 0 (by omega))
      subst hspot
      refine ⟨ab, ao, rfl, fun i hi => ?_⟩
      have hc := hcell i (by omega)
      rw [Addr.add_mid] at hc
      have := range_u8 hwz i
      rw [← List.getD_eq_getElem?_getD] at this
      rw [show (((zs.getD i 0).toNat : Nat) : Int) = zs.getD i 0 by omega]
      exact hc
    · rw [hx]
      simp only [DataW.weights, Tryd.underlying39, bU8, lits]
      simp
      left; omega
theorem wAll_mem {H : Type} {P : Program} {e : TypeId} : ∀ {l : List (DataW H)} {d : DataW H}, d ∈ l → ∀ n ∈ d.weights P e, n ∈ DataW.weightsAll P e l
  | d' :: r, d, hd, n, hn => by
    simp only [DataW.weightsAll, List.mem_append]
    rcases List.mem_cons.1 hd with rfl | h
    · exact Or.inl hn
    · exact Or.inr (wAll_mem h n hn)
set_option maxRecDepth 100000 in
theorem openAsk {H : Type} {enc : TypeId × Value → H} {W : World} {base b0 : Nat} {r : Reach} {held : Bool} {v : Value} {d : DataW H} {ps : List MemPlace}
    (hv : Value.okWide Tryd.prog W r b0 38 v) (h : DataW.Trod enc Tryd.prog W base (fun _ => true) held 38 v d ps) (hs : ∀ k ∈ d.weights Tryd.prog 38, k ≤ reachBytes) :
    ∃ (la : Option Addr) (n cap : Nat) (C : Nat → Int) (V : Nat → Value) (m : Nat → Nat) (b : Nat → Nat → Nat), v = .slice la n cap ∧ n ≤ maxLen ∧ AskAt W la n C V ∧ (∀ i, i < n → BytesOf W (V i) (m i) (b i)) ∧ ∀ i, i < n → m i ≤ 140737488355328 := by
  obtain ⟨a1, len, cap, rfl⟩ := okWide_slice Tryd.underlying38 hv
  obtain ⟨fuel, hf⟩ := h
  rcases DataW.trod_slice Tryd.underlying38 hf with ⟨hcs, hx⟩ | ⟨a, len', cap', elems, rest, n, _, hcs, hx, hb, hl, hm, hlen, hel, _, _⟩
  · simp [Value.cells] at hcs
    obtain ⟨rfl, rfl, rfl⟩ := hcs
    exact ⟨none, 0, 0, fun _ => 0, fun _ => undef, fun _ => 0, fun _ _ => 0, rfl, by omega, fun h => absurd rfl h, fun i hi => absurd hi (by omega), fun i hi => absurd hi (by omega)⟩
  · simp [Value.cells] at hcs
    obtain ⟨rfl, rfl, rfl⟩ := hcs
    rw [cAsk] at hel
    have hd : d = .slice (elems.map (·.1)) (rest.map (·.1)) := congrArg Prod.fst hx
    have get : ∀ i, i < len → ∃ p : Int × Value × Nat × (Nat → Nat), W.cell? ((a.add (i * 2)).add 0) = some (.int .i64 p.1) ∧ W.cell? ((a.add (i * 2)).add 1) = some p.2.1 ∧ BytesOf W p.2.1 p.2.2.1 p.2.2.2 ∧ p.2.2.1 ≤ 140737488355328 := by
      intro i hi
      have he := hel i hi
      have hil : i < elems.length := by omega
      rw [List.getElem?_eq_getElem hil, Option.bind_eq_some_iff] at he
      obtain ⟨cs, hc, ht⟩ := he
      obtain ⟨_, hl2, hcell⟩ := World.cells?_some hc
      obtain ⟨fs, hu, hsz, hty, f0, f1, hf0, hf1, t0, o0, t1, o1⟩ := uAsk
      obtain ⟨xs, k, _, hy, _, hxl, hxe⟩ := DataW.trod_struct hu ht
      have q0 := hxe 0 f0 hf0
      have q1 := hxe 1 f1 hf1
      rw [t0, o0, cI64, List.getElem?_eq_getElem (show 0 < xs.length by omega)] at q0
      rw [t1, o1, cSl, List.getElem?_eq_getElem (show 1 < xs.length by omega)] at q1
      obtain ⟨x, hx0, _, _⟩ := DataW.trod_int Tryd.underlying3 q0
      obtain ⟨vb, mb, bb, hx1, hB, hw⟩ := openBy q1
      have e0 : cs[0]? = some (.int .i64 x) := by
        have : ((cs.drop 0).take 1)[0]? = some (Value.int .i64 x) := by rw [hx0]; rfl
        simpa using this
      have e1 : cs[1]? = some vb := by
        have : ((cs.drop 1).take 1)[0]? = some vb := by rw [hx1]; rfl
        simpa using this
      refine ⟨(x, vb, mb, bb), by rw [hcell 0 (by omega), e0], by rw [hcell 1 (by omega), e1], hB, ?_⟩
      show mb ≤ 140737488355328
      rcases hw with rfl | ⟨k2, hk, hkw⟩
      · omega
      · refine Nat.le_trans hk (Nat.le_trans (hs k2 ?_) (by unfold reachBytes; omega))
        rw [hd]
        simp only [DataW.weights, Tryd.underlying38, List.mem_cons, List.mem_append]
        refine Or.inr (Or.inl (wAll_mem (List.mem_map.2 ⟨elems[i], List.getElem_mem hil, rfl⟩) _ ?_))
        rw [hy]
        simp only [DataW.weights, hu]
        exact DataW.weights_mem_each (j := 1) (t := 39) (d := xs[1].1) (by rw [hty]; rfl) (by rw [List.getElem?_map, List.getElem?_eq_getElem (show 1 < xs.length by omega)]; rfl) _ hkw
    by_cases hne : len = 0
    · exact ⟨some a, len, cap, fun _ => 0, fun _ => undef, fun _ => 0, fun _ _ => 0, rfl, by omega, fun h => absurd hne h, fun i hi => absurd hi (by omega), fun i hi => absurd hi (by omega)⟩
    obtain ⟨ab, ao, spot⟩ := a
    have hspot : spot = none := by
      obtain ⟨p, hx, _⟩ := get 0 (by omega)
      simpa [Addr.add] using World.cell?_spot hx
    subst hspot
    let f : Nat → Int × Value × Nat × (Nat → Nat) := fun i => if h : i < len then (get i h).choose else (0, undef, 0, fun _ => 0)
    have hf2 : ∀ i, i < len → W.cell? ⟨ab, ao + i * 2, none⟩ = some (.int .i64 (f i).1) ∧ W.cell? ⟨ab, ao + i * 2 + 1, none⟩ = some (f i).2.1 ∧ BytesOf W (f i).2.1 (f i).2.2.1 (f i).2.2.2 ∧ (f i).2.2.1 ≤ 140737488355328 := by
      intro i hi
      have := (get i hi).choose_spec
      rw [show f i = (get i hi).choose from dif_pos hi]
      generalize (get i hi).choose = p at this ⊢
      rw [Addr.add_mid, Addr.add_mid, Addr.add_mid, Nat.add_zero] at this
      exact this
    exact ⟨_, len, cap, fun i => (f i).1, fun i => (f i).2.1, fun i => (f i).2.2.1, fun i => (f i).2.2.2, rfl, by omega, fun _ => ⟨ab, ao, rfl, fun i hi => ⟨(hf2 i hi).1, (hf2 i hi).2.1⟩⟩, fun i hi => (hf2 i hi).2.2.1, fun i hi => (hf2 i hi).2.2.2⟩
end Go.Proofs.YtipdaiacapjfnaaDoor
