/- How arguments read: lists of numbers, of words, of steps. -/
import Derived.Test.YtpgjchkfglkgcaaUf
import Derived.Test.YtpgjchkfglkgcaaQa
namespace Go.Proofs.Ytpgjchkfglkgcaa
open Go.ChangeShapes Go.WideShapes Go.ChangeAt Go.RowKit
/-- v is a list of these n numbers -/
def Us (W : World) (v : Value) (n : Nat) (x : Nat → Int) : Prop := ∃ ad cap, v = .slice ad n cap ∧ (0 < n → ∃ g a, ad = some ⟨g, a, none⟩ ∧ ∀ i, i < n → W.cell? ⟨g, a + i, none⟩ = some (.int .u64 (x i)) ∧ 0 ≤ x i ∧ x i ≤ 18446744073709551615)
structure Rd (W : World) (b a : Nat) (x : W4) : Prop where
  c0 : W.cell? ⟨b, a, none⟩ = some (.int .u64 x.a)
  c1 : W.cell? ⟨b, a + 1, none⟩ = some (.int .u64 x.b)
  c2 : W.cell? ⟨b, a + 2, none⟩ = some (.int .u64 x.c)
  c3 : W.cell? ⟨b, a + 3, none⟩ = some (.int .u64 x.d)
theorem Rd.lt {W : World} {b a : Nat} {x : W4} (h : Rd W b a x) : b < W.heap.size := World.block_lt_of_cell? W _ h.c0
theorem Rd.past {W W' : World} {b a : Nat} {x : W4} (h : Rd W b a x) (k : Below W.heap.size W W') : Rd W' b a x :=
  ⟨(k.cell (p := ⟨b, _, none⟩) h.lt).trans h.c0, (k.cell (p := ⟨b, _, none⟩) h.lt).trans h.c1, (k.cell (p := ⟨b, _, none⟩) h.lt).trans h.c2, (k.cell (p := ⟨b, _, none⟩) h.lt).trans h.c3⟩
def WL (W : World) (v : Value) (m : Nat) (x : Ring) : Prop := ∃ ad cap, v = .slice ad m cap ∧ (0 < m → ∃ g a, ad = some ⟨g, a, none⟩ ∧ ∀ i, i < m → Rd W g (a + i * 4) (x i))
set_option maxRecDepth 100000 in
theorem openUs {H : Type} {enc : TypeId × Value → H} {W : World} {base b0 : Nat} {r : Reach} {held : Bool} {v : Value} {d : DataW H} {ps : List MemPlace}
    (hv : Value.okWide Try.prog W r b0 50 v) (h : DataW.Trod enc Try.prog W base (fun _ => true) held 50 v d ps) (hs : ∀ k ∈ d.weights Try.prog 50, k ≤ reachBytes) :
    ∃ n x, Us W v n x ∧ n ≤ 17592186044416 := by
  obtain ⟨a1, len, cap, rfl⟩ := okWide_slice Try.underlying50 hv
  obtain ⟨fuel, hf⟩ := h
  rcases DataW.trod_slice Try.underlying50 hf with ⟨hcs, hx⟩ | ⟨a, len', cap', elems, rest, n, _, hcs, hx, hb, hl, hm, hlen, hel, _, _⟩
  · simp [Value.cells] at hcs
    obtain ⟨rfl, rfl, rfl⟩ := hcs
    exact ⟨0, fun _ => 0, ⟨none, 0, rfl, fun e => absurd e (by omega)⟩, by omega⟩
  · simp [Value.cells] at hcs
    obtain ⟨rfl, rfl, rfl⟩ := hcs
    rw [cells22] at hel
    have hd : d = .slice (elems.map (·.1)) (rest.map (·.1)) := congrArg Prod.fst hx
    have hln : len ≤ 17592186044416 := by
      have hk := hs (elems.length * Try.prog.bytesOf 23 + rest.length * Try.prog.bytesOf 23) (by
        rw [hd]
        simp only [DataW.weights, Try.underlying50, List.mem_cons, List.mem_append]
        left
        simp [Nat.add_mul])
      have hb8 : Try.prog.bytesOf 23 = 8 := by kernel_rfl
      rw [hb8] at hk
      unfold reachBytes at hk
      omega
    by_cases hne : len = 0
    · exact ⟨len, fun _ => 0, ⟨some a, cap, rfl, fun e => absurd hne (by omega)⟩, hln⟩
    have at1 : ∀ i, i < len → ∃ z : Int, W.cell? (a.add i) = some (.int .u64 z) ∧ 0 ≤ z ∧ z ≤ 18446744073709551615 := by
      intro i hi
      have he := hel i hi
      rw [List.getElem?_eq_getElem (show i < elems.length by omega), Option.bind_eq_some_iff] at he
      obtain ⟨cs, hc, ht⟩ := he
      obtain ⟨_, hl4, hcell⟩ := World.cells?_some hc
      obtain ⟨z, hz, _, hw⟩ := DataW.trod_int Try.underlying23 ht
      refine ⟨z, ?_, bounds_u64 hw⟩
      have h9 := hcell 0 (by omega)
      rw [hz] at h9
      simpa [Addr.add] using h9
    obtain ⟨ab, ao, spot⟩ := a
    have hspot : spot = none := by
      obtain ⟨z, hz, _⟩ := at1 0 (by omega)
      simpa [Addr.add] using World.cell?_spot hz
    subst hspot
    refine ⟨len, fun i => if h : i < len then (at1 i h).choose else 0, ⟨some ⟨ab, ao, none⟩, cap, rfl, fun _ => ⟨ab, ao, rfl, fun i hi => ?_⟩⟩, hln⟩
    simp only [hi, dif_pos]
    have h9 := (at1 i hi).choose_spec
    simpa only [Addr.add_mid] using h9
theorem word_in {H : Type} {enc : TypeId × Value → H} {W : World} {base : Nat} {held : Bool} {cs : List Value} (off m : Nat) {y : DataW H × List MemPlace}
    (ht : DataW.trod enc Try.prog W base (fun _ => true) held m 27 ((cs.drop off).take 4) = some y) (q : Nat) (hq : q < 4) : ∃ x : Int, cs[off + q]? = some (.int .u64 x) := by
  obtain ⟨xs, m', _, _, _, hxs, hxe⟩ := DataW.trod_array Try.underlying27 ht
  have h4 := hxe q hq
  rw [cells22, List.getElem?_eq_getElem (show q < xs.length by omega)] at h4
  obtain ⟨x, hx, _, hw⟩ := DataW.trod_int Try.underlying23 h4
  refine ⟨x, ?_⟩
  rw [Nat.mul_one] at hx
  have h0 : ((((cs.drop off).take 4).drop q).take 1)[0]? = some (Value.int .u64 x) := by rw [hx]; rfl
  simp [hq] at h0
  exact h0
theorem word_of {cs : List Value} {off : Nat} (h : ∀ q, q < 4 → ∃ x : Int, cs[off + q]? = some (.int .u64 x)) : ∃ X : W4, cs[off]? = some (.int .u64 X.a) ∧ cs[off + 1]? = some (.int .u64 X.b) ∧ cs[off + 2]? = some (.int .u64 X.c) ∧ cs[off + 3]? = some (.int .u64 X.d) := by
  obtain ⟨a, ha⟩ := h 0 (by omega)
  obtain ⟨b, hb⟩ := h 1 (by omega)
  obtain ⟨c, hc⟩ := h 2 (by omega)
  obtain ⟨d, hd⟩ := h 3 (by omega)
  exact ⟨⟨a, b, c, d⟩, ha, hb, hc, hd⟩
set_option maxRecDepth 100000 in
theorem openWs {H : Type} {enc : TypeId × Value → H} {W : World} {base b0 : Nat} {r : Reach} {held : Bool} {v : Value} {d : DataW H} {ps : List MemPlace}
    (hv : Value.okWide Try.prog W r b0 52 v) (h : DataW.Trod enc Try.prog W base (fun _ => true) held 52 v d ps) (hs : ∀ k ∈ d.weights Try.prog 52, k ≤ reachBytes) :
    ∃ n x, WL W v n x ∧ n ≤ 4398046511104 := by
  obtain ⟨a1, len, cap, rfl⟩ := okWide_slice Try.underlying52 hv
  obtain ⟨fuel, hf⟩ := h
  rcases DataW.trod_slice Try.underlying52 hf with ⟨hcs, hx⟩ | ⟨a, len', cap', elems, rest, n, _, hcs, hx, hb, hl, hm, hlen, hel, _, _⟩
  · simp [Value.cells] at hcs
    obtain ⟨rfl, rfl, rfl⟩ := hcs
    exact ⟨0, ring0, ⟨none, 0, rfl, fun e => absurd e (by omega)⟩, by omega⟩
  · simp [Value.cells] at hcs
    obtain ⟨rfl, rfl, rfl⟩ := hcs
    rw [cells24] at hel
    have hd : d = .slice (elems.map (·.1)) (rest.map (·.1)) := congrArg Prod.fst hx
    have hln : len ≤ 4398046511104 := by
      have hk := hs (elems.length * Try.prog.bytesOf 27 + rest.length * Try.prog.bytesOf 27) (by
        rw [hd]
        simp only [DataW.weights, Try.underlying52, List.mem_cons, List.mem_append]
        left
        simp [Nat.add_mul])
      have hb32 : Try.prog.bytesOf 27 = 32 := by kernel_rfl
      rw [hb32] at hk
      unfold reachBytes at hk
      omega
    by_cases hne : len = 0
    · exact ⟨len, ring0, ⟨some a, cap, rfl, fun e => absurd hne (by omega)⟩, hln⟩
    have at1 : ∀ i, i < len → ∃ X : W4, W.cell? ((a.add (i * 4)).add 0) = some (.int .u64 X.a) ∧ W.cell? ((a.add (i * 4)).add 1) = some (.int .u64 X.b) ∧ W.cell? ((a.add (i * 4)).add 2) = some (.int .u64 X.c) ∧ W.cell? ((a.add (i * 4)).add 3) = some (.int .u64 X.d) := by
      intro i hi
      have he := hel i hi
      rw [List.getElem?_eq_getElem (show i < elems.length by omega), Option.bind_eq_some_iff] at he
      obtain ⟨cs, hc, ht⟩ := he
      obtain ⟨_, hl4, hcell⟩ := World.cells?_some hc
      have ht' : DataW.trod enc Try.prog W base (fun _ => true) held n 27 ((cs.drop 0).take 4) = some elems[i] := by rw [List.drop_zero, List.take_of_length_le (by omega)]; exact ht
      obtain ⟨X, h0, h1, h2, h3⟩ := word_of (word_in 0 n ht')
      exact ⟨X, by rw [hcell 0 (by omega)]; exact h0, by rw [hcell 1 (by omega)]; exact h1, by rw [hcell 2 (by omega)]; exact h2, by rw [hcell 3 (by omega)]; exact h3⟩
    obtain ⟨ab, ao, spot⟩ := a
    have hspot : spot = none := by
      obtain ⟨X, hx, _⟩ := at1 0 (by omega)
      simpa [Addr.add] using World.cell?_spot hx
    subst hspot
    have get : ∀ i, i < len → ∃ X : W4, Rd W ab (ao + i * 4) X := fun i hi => by
      obtain ⟨X, h9⟩ := at1 i hi
      simp only [Addr.add_mid, Nat.add_zero] at h9
      exact ⟨X, h9.1, h9.2.1, h9.2.2.1, h9.2.2.2⟩
    refine ⟨len, fun i => if h : i < len then (get i h).choose else w0, ⟨some ⟨ab, ao, none⟩, cap, rfl, fun _ => ⟨ab, ao, rfl, fun i hi => ?_⟩⟩, hln⟩
    simp only [hi, dif_pos]
    exact (get i hi).choose_spec
/-- one step as it lies in memory -/
structure StR where
  kd : Int
  wh : Int
  nm : Int
def StAt (W : World) (g a : Nat) (o : StR) : Prop := W.cell? ⟨g, a, none⟩ = some (.int .i64 o.kd) ∧ W.cell? ⟨g, a + 1, none⟩ = some (.int .i64 o.wh) ∧ W.cell? ⟨g, a + 2, none⟩ = some (.int .u64 o.nm)
def StOk (o : StR) : Prop := 0 ≤ o.nm ∧ o.nm ≤ 18446744073709551615
def StsAt (W : World) (v : Value) (n : Nat) (o : Nat → StR) : Prop := ∃ ad cap, v = .slice ad n cap ∧ (0 < n → ∃ g a, ad = some ⟨g, a, none⟩ ∧ ∀ i, i < n → StAt W g (a + i * 3) (o i) ∧ StOk (o i))
theorem cellsI : Try.prog.cellsOf 3 = 1 := by kernel_rfl
theorem cellsSt : Try.prog.cellsOf 47 = 3 := by kernel_rfl
set_option maxRecDepth 100000 in
theorem openSteps {H : Type} {enc : TypeId × Value → H} {W : World} {base b0 : Nat} {r : Reach} {held : Bool} {v : Value} {d : DataW H} {ps : List MemPlace}
    (hv : Value.okWide Try.prog W r b0 39 v) (h : DataW.Trod enc Try.prog W base (fun _ => true) held 39 v d ps) (hs : ∀ k ∈ d.weights Try.prog 39, k ≤ reachBytes) :
    ∃ n o, StsAt W v n o ∧ n ≤ 5864062014806 := by
  obtain ⟨a1, len, cap, rfl⟩ := okWide_slice Try.underlying39 hv
  obtain ⟨fuel, hf⟩ := h
  rcases DataW.trod_slice Try.underlying39 hf with ⟨hcs, hx⟩ | ⟨a, len', cap', elems, rest, n, _, hcs, hx, hb, hl, hm, hlen, hel, _, _⟩
  · simp [Value.cells] at hcs
    obtain ⟨rfl, rfl, rfl⟩ := hcs
    exact ⟨0, fun _ => ⟨0, 0, 0⟩, ⟨none, 0, rfl, fun e => absurd e (by omega)⟩, by omega⟩
  · simp [Value.cells] at hcs
    obtain ⟨rfl, rfl, rfl⟩ := hcs
    rw [cellsSt] at hel
    have hd : d = .slice (elems.map (·.1)) (rest.map (·.1)) := congrArg Prod.fst hx
    have hln : len ≤ 5864062014806 := by
      have hk := hs (elems.length * Try.prog.bytesOf 47 + rest.length * Try.prog.bytesOf 47) (by
        rw [hd]
        simp only [DataW.weights, Try.underlying39, List.mem_cons, List.mem_append]
        left
        simp [Nat.add_mul])
      have hb24 : Try.prog.bytesOf 47 = 24 := by kernel_rfl
      rw [hb24] at hk
      unfold reachBytes at hk
      omega
    by_cases hne : len = 0
    · exact ⟨len, fun _ => ⟨0, 0, 0⟩, ⟨some a, cap, rfl, fun e => absurd hne (by omega)⟩, hln⟩
    have at1 : ∀ i, i < len → ∃ o : StR, (W.cell? ((a.add (i * 3)).add 0) = some (.int .i64 o.kd) ∧ W.cell? ((a.add (i * 3)).add 1) = some (.int .i64 o.wh) ∧ W.cell? ((a.add (i * 3)).add 2) = some (.int .u64 o.nm)) ∧ StOk o := by
      intro i hi
      have he := hel i hi
      rw [List.getElem?_eq_getElem (show i < elems.length by omega), Option.bind_eq_some_iff] at he
      obtain ⟨cs, hc, ht⟩ := he
      obtain ⟨_, hl3, hcell⟩ := World.cells?_some hc
      obtain ⟨xs, m, _, _, hcl, hxs, hfs⟩ := DataW.trod_struct Try.underlying47 ht
      have hx3 : xs.length = 3 := hxs
      have g0 : DataW.trod enc Try.prog W base (fun _ => true) held m 3 ((cs.drop 0).take (Try.prog.cellsOf 3)) = xs[0]? := hfs 0 _ rfl
      have g1 : DataW.trod enc Try.prog W base (fun _ => true) held m 3 ((cs.drop 1).take (Try.prog.cellsOf 3)) = xs[1]? := hfs 1 _ rfl
      have g2 : DataW.trod enc Try.prog W base (fun _ => true) held m 23 ((cs.drop 2).take (Try.prog.cellsOf 23)) = xs[2]? := hfs 2 _ rfl
      rw [cellsI, List.getElem?_eq_getElem (show 0 < xs.length by omega)] at g0
      rw [cellsI, List.getElem?_eq_getElem (show 1 < xs.length by omega)] at g1
      rw [cells22, List.getElem?_eq_getElem (show 2 < xs.length by omega)] at g2
      have one : ∀ (k : Nat) (u : Value), (cs.drop k).take 1 = [u] → cs[k]? = some u := fun k u e => by
        have : ((cs.drop k).take 1)[0]? = some u := by rw [e]; rfl
        simpa using this
      obtain ⟨z0, y0, _, _⟩ := DataW.trod_int Try.underlying3 g0
      obtain ⟨z1, y1, _, _⟩ := DataW.trod_int Try.underlying3 g1
      obtain ⟨z2, y2, _, hw⟩ := DataW.trod_int Try.underlying23 g2
      refine ⟨⟨z0, z1, z2⟩, ⟨?_, ?_, ?_⟩, bounds_u64 hw⟩
      · rw [hcell 0 (by omega)]; exact one 0 _ y0
      · rw [hcell 1 (by omega)]; exact one 1 _ y1
      · rw [hcell 2 (by omega)]; exact one 2 _ y2
    obtain ⟨ab, ao, spot⟩ := a
    have hspot : spot = none := by
      obtain ⟨o, ho, _⟩ := at1 0 (by omega)
      simpa [Addr.add] using World.cell?_spot ho.1
    subst hspot
    refine ⟨len, fun i => if h : i < len then (at1 i h).choose else ⟨0, 0, 0⟩, ⟨some ⟨ab, ao, none⟩, cap, rfl, fun _ => ⟨ab, ao, rfl, fun i hi => ?_⟩⟩, hln⟩
    simp only [hi, dif_pos, StAt]
    have h9 := (at1 i hi).choose_spec
    simpa only [Addr.add_mid, Nat.add_zero] using h9
end Go.Proofs.Ytpgjchkfglkgcaa
