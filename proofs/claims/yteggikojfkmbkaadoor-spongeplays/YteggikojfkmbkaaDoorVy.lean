/- How an argument that is a list of steps reads. -/
import Derived.Test.YteggikojfkmbkaaDoorVu
import Derived.Test.YteggikojfkmbkaaDoorVw
import Derived.ChangeSlices
import Derived.OpenShut
import Derived.SizedLaws
namespace Go.Proofs.YteggikojfkmbkaaDoor
open Go.ChangeShapes Go.WideShapes Go.ChangeAt Go.RowKit
theorem cStp : Tryd.prog.cellsOf 45 = 3 := by kernel_rfl
theorem cI64 : Tryd.prog.cellsOf 3 = 1 := by kernel_rfl
theorem uStp : ∃ fs : Array Field, Tryd.prog.underlying 45 = some (.struct fs) ∧ fs.size = 3 ∧ fs.toList.map (·.type) = [3, 3, 29] ∧ ∃ f0 f1 f2, fs[0]? = some f0 ∧ fs[1]? = some f1 ∧ fs[2]? = some f2 ∧ f0.type = 3 ∧ f0.offset = 0 ∧ f1.type = 3 ∧ f1.offset = 1 ∧ f2.type = 29 ∧ f2.offset = 2 := ⟨_, Tryd.underlying45, by kernel_rfl, by kernel_rfl, _, _, _, rfl, rfl, rfl, rfl, rfl, rfl, rfl, rfl, rfl⟩
set_option maxRecDepth 100000 in
theorem openStp {H : Type} {enc : TypeId × Value → H} {W : World} {base b0 : Nat} {r : Reach} {held : Bool} {v : Value} {d : DataW H} {ps : List MemPlace}
    (hv : Value.okWide Tryd.prog W r b0 39 v) (h : DataW.Trod enc Tryd.prog W base (fun _ => true) held 39 v d ps) (hs : ∀ k ∈ d.weights Tryd.prog 39, k ≤ reachBytes) :
    ∃ (la : Option Addr) (n cap : Nat) (Kd Wh : Nat → Int) (ad : Nat → Option Addr) (cp : Nat → Nat) (Ls : Nat → List Nat), v = .slice la n cap ∧ n ≤ 140737488355328 ∧ SqAt W la n Kd Wh (fun i => .slice (ad i) (Ls i).length (cp i)) ∧ (∀ i, i < n → (Ls i).length ≤ 140737488355328) ∧ (∀ i, i < n → Seg W (.slice (ad i) (Ls i).length (cp i)) (Ls i)) ∧ ∀ i j, (Ls i).getD j 0 < 256 := by
  obtain ⟨a1, len, cap, rfl⟩ := okWide_slice Tryd.underlying39 hv
  obtain ⟨fuel, hf⟩ := h
  rcases DataW.trod_slice Tryd.underlying39 hf with ⟨hcs, hx⟩ | ⟨a, len', cap', elems, rest, n, _, hcs, hx, hb, hl, hm, hlen, hel, _, _⟩
  · simp [Value.cells] at hcs
    obtain ⟨rfl, rfl, rfl⟩ := hcs
    exact ⟨none, 0, 0, fun _ => 0, fun _ => 0, fun _ => none, fun _ => 0, fun _ => [], rfl, by omega, fun h => absurd rfl h, fun i hi => absurd hi (by omega), fun i hi => absurd hi (by omega), fun i j => by simp⟩
  · simp [Value.cells] at hcs
    obtain ⟨rfl, rfl, rfl⟩ := hcs
    rw [cStp] at hel
    have hd : d = .slice (elems.map (·.1)) (rest.map (·.1)) := congrArg Prod.fst hx
    have hln : len ≤ 140737488355328 := by
      have hk := hs (elems.length * Tryd.prog.bytesOf 45 + rest.length * Tryd.prog.bytesOf 45) (by
        rw [hd]
        simp only [DataW.weights, Tryd.underlying39, List.mem_cons, List.mem_append]
        left
        simp [Nat.add_mul])
      have hb40 : Tryd.prog.bytesOf 45 = 40 := by kernel_rfl
      rw [hb40] at hk
      unfold reachBytes at hk
      omega
    have get : ∀ i, i < len → ∃ p : Int × Int × Option Addr × Nat × List Nat, W.cell? ((a.add (i * 3)).add 0) = some (.int .i64 p.1) ∧ W.cell? ((a.add (i * 3)).add 1) = some (.int .i64 p.2.1) ∧ W.cell? ((a.add (i * 3)).add 2) = some (.slice p.2.2.1 p.2.2.2.2.length p.2.2.2.1) ∧ (∀ j, p.2.2.2.2.getD j 0 < 256) ∧ Seg W (.slice p.2.2.1 p.2.2.2.2.length p.2.2.2.1) p.2.2.2.2 ∧ p.2.2.2.2.length ≤ 140737488355328 := by
      intro i hi
      have he := hel i hi
      have hil : i < elems.length := by omega
      rw [List.getElem?_eq_getElem hil, Option.bind_eq_some_iff] at he
      obtain ⟨cs, hc, ht⟩ := he
      obtain ⟨_, hl2, hcell⟩ := World.cells?_some hc
      obtain ⟨fs, hu, hsz, hty, f0, f1, f2, hf0, hf1, hf2, t0, o0, t1, o1, t2, o2⟩ := uStp
      obtain ⟨xs, k, _, hy, _, hxl, hxe⟩ := DataW.trod_struct hu ht
      have q0 := hxe 0 f0 hf0
      have q1 := hxe 1 f1 hf1
      have q2 := hxe 2 f2 hf2
      rw [t0, o0, cI64, List.getElem?_eq_getElem (show 0 < xs.length by omega)] at q0
      rw [t1, o1, cI64, List.getElem?_eq_getElem (show 1 < xs.length by omega)] at q1
      rw [t2, o2, cSlb, List.getElem?_eq_getElem (show 2 < xs.length by omega)] at q2
      obtain ⟨x, hx0, _, _⟩ := DataW.trod_int Tryd.underlying3 q0
      obtain ⟨y, hx1, _, _⟩ := DataW.trod_int Tryd.underlying3 q1
      obtain ⟨ad, cp, l, hx2, hB, hS, hw⟩ := openSegE q2
      have e0 : cs[0]? = some (.int .i64 x) := by
        have : ((cs.drop 0).take 1)[0]? = some (Value.int .i64 x) := by rw [hx0]; rfl
        simpa using this
      have e1 : cs[1]? = some (.int .i64 y) := by
        have : ((cs.drop 1).take 1)[0]? = some (Value.int .i64 y) := by rw [hx1]; rfl
        simpa using this
      have e2 : cs[2]? = some (.slice ad l.length cp) := by
        have : ((cs.drop 2).take 1)[0]? = some (Value.slice ad l.length cp) := by rw [hx2]; rfl
        simpa using this
      refine ⟨(x, y, ad, cp, l), by rw [hcell 0 (by omega), e0], by rw [hcell 1 (by omega), e1], by rw [hcell 2 (by omega), e2], hB, hS, ?_⟩
      show l.length ≤ 140737488355328
      rcases hw with h0 | ⟨k2, hk, hkw⟩
      · omega
      · refine Nat.le_trans hk (Nat.le_trans (hs k2 ?_) (by unfold reachBytes; omega))
        rw [hd]
        simp only [DataW.weights, Tryd.underlying39, List.mem_cons, List.mem_append]
        refine Or.inr (Or.inl (wAll_mem (List.mem_map.2 ⟨elems[i], List.getElem_mem hil, rfl⟩) _ ?_))
        rw [hy]
        simp only [DataW.weights, hu]
        exact DataW.weights_mem_each (j := 2) (t := 29) (d := xs[2].1) (by rw [hty]; rfl) (by rw [List.getElem?_map, List.getElem?_eq_getElem (show 2 < xs.length by omega)]; rfl) _ hkw
    let f : Nat → Int × Int × Option Addr × Nat × List Nat := fun i => if h : i < len then (get i h).choose else (0, 0, none, 0, [])
    have hf2 : ∀ i, i < len → W.cell? ((a.add (i * 3)).add 0) = some (.int .i64 (f i).1) ∧ W.cell? ((a.add (i * 3)).add 1) = some (.int .i64 (f i).2.1) ∧ W.cell? ((a.add (i * 3)).add 2) = some (.slice (f i).2.2.1 (f i).2.2.2.2.length (f i).2.2.2.1) ∧ (∀ j, (f i).2.2.2.2.getD j 0 < 256) ∧ Seg W (.slice (f i).2.2.1 (f i).2.2.2.2.length (f i).2.2.2.1) (f i).2.2.2.2 ∧ (f i).2.2.2.2.length ≤ 140737488355328 := by
      intro i hi
      have := (get i hi).choose_spec
      rw [show f i = (get i hi).choose from dif_pos hi]
      exact this
    refine ⟨_, len, cap, fun i => (f i).1, fun i => (f i).2.1, fun i => (f i).2.2.1, fun i => (f i).2.2.2.1, fun i => (f i).2.2.2.2, rfl, hln, fun hne => ?_, fun i hi => (hf2 i hi).2.2.2.2.2, fun i hi => (hf2 i hi).2.2.2.2.1, fun i j => ?_⟩
    · obtain ⟨ab, ao, spot⟩ := a
      have hspot : spot = none := by simpa [Addr.add] using World.cell?_spot (hf2 0 (by omega)).1
      subst hspot
      refine ⟨ab, ao, rfl, fun i hi => ?_⟩
      obtain ⟨h0, h1, h2, _⟩ := hf2 i hi
      rw [Addr.add_mid, Addr.add_mid] at h0 h1 h2
      exact ⟨h0, h1, h2⟩
    · by_cases hi : i < len
      · exact (hf2 i hi).2.2.2.1 j
      · show ((f i).2.2.2.2).getD j 0 < 256
        rw [show f i = (0, 0, none, 0, []) from dif_neg hi]; simp
end Go.Proofs.YteggikojfkmbkaaDoor
