/- How arguments read: a list of words, a list of steps. -/
import Derived.Test.YtdddmebihkdkjaaQj
import Derived.ProofKit
import Derived.OpenShut
import Derived.ChangeOld
import Derived.ChangeSlices
import Derived.Lib.SmallJoins
import Derived.SizedLaws
namespace Go.Proofs.Ytdddmebihkdkjaa
open Go.ChangeShapes Go.WideShapes Go.ChangeAt Go.RowKit
theorem Try.own : ownKnob Try.prog.godebug = none := by kernel_rfl
theorem Try.laidOut : laidOutB Try.prog = true := by kernel_rfl
theorem cells24 : Try.prog.cellsOf 30 = 4 := by kernel_rfl
theorem cells22 : Try.prog.cellsOf 28 = 1 := by kernel_rfl
theorem cellsI : Try.prog.cellsOf 3 = 1 := by kernel_rfl
theorem cellsSl : Try.prog.cellsOf 31 = 1 := by kernel_rfl
theorem cellsB : Try.prog.cellsOf 4 = 1 := by kernel_rfl
theorem cellsOp : Try.prog.cellsOf 33 = 14 := by kernel_rfl
theorem okWide_arr {P : Program} {w : World} {r : Reach} {base n : Nat} {t e : TypeId} {v : Value} (ht : P.underlying t = some (.array n e)) (h : Value.okWide P w r base t v) : ∃ cs, v = .agg cs ∧ cs.size = P.cellsOf t := by
  simp only [Value.okWide, ht] at h
  obtain ⟨cs, h1, h2, _⟩ := h
  exact ⟨cs, h1, h2⟩
theorem word_in {H : Type} {enc : TypeId × Value → H} {W : World} {base : Nat} {held : Bool} {cs : List Value} (off m : Nat) {y : DataW H × List MemPlace}
    (ht : DataW.trod enc Try.prog W base (fun _ => true) held m 30 ((cs.drop off).take 4) = some y) (q : Nat) (hq : q < 4) : ∃ x : Int, cs[off + q]? = some (.int .u64 x) := by
  obtain ⟨xs, m', _, _, _, hxs, hxe⟩ := DataW.trod_array Try.underlying30 ht
  have h4 := hxe q hq
  rw [cells22, List.getElem?_eq_getElem (show q < xs.length by omega)] at h4
  obtain ⟨x, hx, _, hw⟩ := DataW.trod_int Try.underlying28 h4
  refine ⟨x, ?_⟩
  rw [Nat.mul_one] at hx
  have h0 : ((((cs.drop off).take 4).drop q).take 1)[0]? = some (Value.int .u64 x) := by rw [hx]; rfl
  simp [hq] at h0
  exact h0
theorem word_of {cs : List Value} {off : Nat} (h : ∀ q, q < 4 → ∃ x : Int, cs[off + q]? = some (.int .u64 x)) : ∃ X : W4, cs[off]? = some (.int .u64 X.a) ∧ cs[off + 1]? = some (.int .u64 X.b) ∧ cs[off + 2]? = some (.int .u64 X.c) ∧ cs[off + 3]? = some (.int .u64 X.d) := by
  obtain ⟨a, ha⟩ := h 0 (by omega)
  obtain ⟨b, hb⟩ := h 1 (by omega)
  obtain ⟨c, hc⟩ := h 2 (by omega)
  obtain ⟨d, hd⟩ := h 3 (by omega)
  exact ⟨⟨a, b, c, d⟩, ha, hb, hc, hd⟩
set_option maxRecDepth 100000 in
theorem openW {H : Type} {enc : TypeId × Value → H} {W : World} {base b0 : Nat} {r : Reach} {held : Bool} {v : Value} {d : DataW H} {ps : List MemPlace}
    (hv : Value.okWide Try.prog W r b0 30 v) (h : DataW.Trod enc Try.prog W base (fun _ => true) held 30 v d ps) : ∃ X : W4, v = X.v := by
  obtain ⟨cs, rfl, hsz⟩ := okWide_arr Try.underlying30 hv
  obtain ⟨c0, c1, c2, c3, rfl⟩ := Joins.array4 (hsz.trans cells24)
  obtain ⟨fuel, hf⟩ := h
  have hf' : DataW.trod enc Try.prog W base (fun _ => true) held fuel 30 ((([c0, c1, c2, c3] : List Value).drop 0).take 4) = some (d, ps) := hf
  obtain ⟨X, h0, h1, h2, h3⟩ := word_of (word_in 0 fuel hf')
  simp at h0 h1 h2 h3
  subst h0 h1 h2 h3
  exact ⟨X, rfl⟩
set_option maxRecDepth 100000 in
theorem openWs {H : Type} {enc : TypeId × Value → H} {W : World} {base b0 : Nat} {r : Reach} {held : Bool} {v : Value} {d : DataW H} {ps : List MemPlace}
    (hv : Value.okWide Try.prog W r b0 52 v) (h : DataW.Trod enc Try.prog W base (fun _ => true) held 52 v d ps) (hs : ∀ k ∈ d.weights Try.prog 52, k ≤ reachBytes) :
    ∃ n x, WL W v n x ∧ n ≤ 4398046511104 := by
  obtain ⟨a1, len, cap, rfl⟩ := okWide_slice Try.underlying52 hv
  obtain ⟨fuel, hf⟩ := h
  rcases DataW.trod_slice Try.underlying52 hf with ⟨hcs, hx⟩ | ⟨a, len', cap', elems, rest, n, _, hcs, hx, hb, hl, hm, hlen, hel, _, _⟩
  · simp [Value.cells] at hcs
    obtain ⟨rfl, rfl, rfl⟩ := hcs
    exact ⟨0, ring0, ⟨none, 0, rfl, fun e => absurd e (by omega)⟩, by omega⟩
  · simp [Value.cells] at hcs
    obtain ⟨rfl, rfl, rfl⟩ := hcs
    rw [cells24] at hel
    have hd : d = .slice (elems.map (·.1)) (rest.map (·.1)) := congrArg Prod.fst hx
    have hln : len ≤ 4398046511104 := by
      have hk := hs (elems.length * Try.prog.bytesOf 30 + rest.length * Try.prog.bytesOf 30) (by
        rw [hd]
        simp only [DataW.weights, Try.underlying52, List.mem_cons, List.mem_append]
        left
        simp [Nat.add_mul])
      have hb32 : Try.prog.bytesOf 30 = 32 := by kernel_rfl
      rw [hb32] at hk
      unfold reachBytes at hk
      omega
    by_cases hne : len = 0
    · exact ⟨len, ring0, ⟨some a, cap, rfl, fun e => absurd hne (by omega)⟩, hln⟩
    have at1 : ∀ i, i < len → ∃ X : W4, W.cell? ((a.add (i * 4)).add 0) = some (.int .u64 X.a) ∧ W.cell? ((a.add (i * 4)).add 1) = some (.int .u64 X.b) ∧ W.cell? ((a.add (i * 4)).add 2) = some (.int .u64 X.c) ∧ W.cell? ((a.add (i * 4)).add 3) = some (.int .u64 X.d) := by
      intro i hi
      have he := hel i hi
      rw [List.getElem?_eq_getElem (show i < elems.length by omega), Option.bind_eq_some_iff] at he
      obtain ⟨cs, hc, ht⟩ := he
      obtain ⟨_, hl4, hcell⟩ := World.cells?_some hc
      have ht' : DataW.trod enc Try.prog W base (fun _ => true) held n 30 ((cs.drop 0).take 4) = some elems[i] := by rw [List.drop_zero, List.take_of_length_le (by omega)]; exact ht
      obtain ⟨X, h0, h1, h2, h3⟩ := word_of (word_in 0 n ht')
      exact ⟨X, by rw [hcell 0 (by omega)]; exact h0, by rw [hcell 1 (by omega)]; exact h1, by rw [hcell 2 (by omega)]; exact h2, by rw [hcell 3 (by omega)]; exact h3⟩
    obtain ⟨ab, ao, spot⟩ := a
    have hspot : spot = none := by
      obtain ⟨X, hx, _⟩ := at1 0 (by omega)
      simpa [Addr.add] using World.cell?_spot hx
    subst hspot
    have get : ∀ i, i < len → ∃ X : W4, Rd W ab (ao + i * 4) X := fun i hi => by
      obtain ⟨X, h9⟩ := at1 i hi
      simp only [Addr.add_mid, Nat.add_zero] at h9
      exact ⟨X, h9.1, h9.2.1, h9.2.2.1, h9.2.2.2⟩
    refine ⟨len, fun i => if h : i < len then (get i h).choose else w0, ⟨some ⟨ab, ao, none⟩, cap, rfl, fun _ => ⟨ab, ao, rfl, fun i hi => ?_⟩⟩, hln⟩
    simp only [hi, dif_pos]
    exact (get i hi).choose_spec
/-- one step as it lies in memory -/
structure OpR where
  kd : Int
  tw : Bool
  N : Int
  M : Int
  P : Int
  X : W4
  Y : W4
  ba : Option Addr
  bn : Nat
  bc : Nat
abbrev OpR.B (o : OpR) : Value := .slice o.ba o.bn o.bc
def OpR.l (o : OpR) : List Value := [.int .i64 o.kd, .bool o.tw, .int .i64 o.N, .int .i64 o.M, .int .i64 o.P, .int .u64 o.X.a, .int .u64 o.X.b, .int .u64 o.X.c, .int .u64 o.X.d, .int .u64 o.Y.a, .int .u64 o.Y.b, .int .u64 o.Y.c, .int .u64 o.Y.d, o.B]
def OpAt (W : World) (g a : Nat) (o : OpR) : Prop := ∀ j v, o.l[j]? = some v → W.cell? ⟨g, a + j, none⟩ = some v
def OpsAt (W : World) (v : Value) (n : Nat) (o : Nat → OpR) : Prop := ∃ ad cap, v = .slice ad n cap ∧ (0 < n → ∃ g a, ad = some ⟨g, a, none⟩ ∧ ∀ i, i < n → OpAt W g (a + i * 14) (o i))
def op0 : OpR := ⟨0, false, 0, 0, 0, w0, w0, none, 0, 0⟩
set_option maxRecDepth 100000 in
theorem openOps {H : Type} {enc : TypeId × Value → H} {W : World} {base b0 : Nat} {r : Reach} {held : Bool} {v : Value} {d : DataW H} {ps : List MemPlace}
    (hv : Value.okWide Try.prog W r b0 22 v) (h : DataW.Trod enc Try.prog W base (fun _ => true) held 22 v d ps) (hs : ∀ k ∈ d.weights Try.prog 22, k ≤ reachBytes) :
    ∃ n o, OpsAt W v n o ∧ n ≤ 1099511627776 := by
  obtain ⟨a1, len, cap, rfl⟩ := okWide_slice Try.underlying22 hv
  obtain ⟨fuel, hf⟩ := h
  rcases DataW.trod_slice Try.underlying22 hf with ⟨hcs, hx⟩ | ⟨a, len', cap', elems, rest, n, _, hcs, hx, hb, hl, hm, hlen, hel, _, _⟩
  · simp [Value.cells] at hcs
    obtain ⟨rfl, rfl, rfl⟩ := hcs
    exact ⟨0, fun _ => op0, ⟨none, 0, rfl, fun e => absurd e (by omega)⟩, by omega⟩
  · simp [Value.cells] at hcs
    obtain ⟨rfl, rfl, rfl⟩ := hcs
    rw [cellsOp] at hel
    have hd : d = .slice (elems.map (·.1)) (rest.map (·.1)) := congrArg Prod.fst hx
    have hln : len ≤ 1099511627776 := by
      have hk := hs (elems.length * Try.prog.bytesOf 33 + rest.length * Try.prog.bytesOf 33) (by
        rw [hd]
        simp only [DataW.weights, Try.underlying22, List.mem_cons, List.mem_append]
        left
        simp [Nat.add_mul])
      have hb128 : Try.prog.bytesOf 33 = 128 := by kernel_rfl
      rw [hb128] at hk
      unfold reachBytes at hk
      omega
    by_cases hne : len = 0
    · exact ⟨len, fun _ => op0, ⟨some a, cap, rfl, fun e => absurd hne (by omega)⟩, hln⟩
    have at1 : ∀ i, i < len → ∃ o : OpR, ∀ j v, o.l[j]? = some v → W.cell? ((a.add (i * 14)).add j) = some v := by
      intro i hi
      have he := hel i hi
      rw [List.getElem?_eq_getElem (show i < elems.length by omega), Option.bind_eq_some_iff] at he
      obtain ⟨cs, hc, ht⟩ := he
      obtain ⟨_, hl14, hcell⟩ := World.cells?_some hc
      obtain ⟨xs, m, _, _, hcl, hxs, hfs⟩ := DataW.trod_struct Try.underlying33 ht
      have hx8 : xs.length = 8 := hxs
      have g0 : DataW.trod enc Try.prog W base (fun _ => true) held m 3 ((cs.drop 0).take (Try.prog.cellsOf 3)) = xs[0]? := hfs 0 _ rfl
      have g1 : DataW.trod enc Try.prog W base (fun _ => true) held m 4 ((cs.drop 1).take (Try.prog.cellsOf 4)) = xs[1]? := hfs 1 _ rfl
      have g2 : DataW.trod enc Try.prog W base (fun _ => true) held m 3 ((cs.drop 2).take (Try.prog.cellsOf 3)) = xs[2]? := hfs 2 _ rfl
      have g3 : DataW.trod enc Try.prog W base (fun _ => true) held m 3 ((cs.drop 3).take (Try.prog.cellsOf 3)) = xs[3]? := hfs 3 _ rfl
      have g4 : DataW.trod enc Try.prog W base (fun _ => true) held m 3 ((cs.drop 4).take (Try.prog.cellsOf 3)) = xs[4]? := hfs 4 _ rfl
      have g5 : DataW.trod enc Try.prog W base (fun _ => true) held m 30 ((cs.drop 5).take (Try.prog.cellsOf 30)) = xs[5]? := hfs 5 _ rfl
      have g6 : DataW.trod enc Try.prog W base (fun _ => true) held m 30 ((cs.drop 9).take (Try.prog.cellsOf 30)) = xs[6]? := hfs 6 _ rfl
      have g7 : DataW.trod enc Try.prog W base (fun _ => true) held m 31 ((cs.drop 13).take (Try.prog.cellsOf 31)) = xs[7]? := hfs 7 _ rfl
      rw [cellsSl, List.getElem?_eq_getElem (show 7 < xs.length by omega)] at g7
      rw [cellsI, List.getElem?_eq_getElem (show 0 < xs.length by omega)] at g0
      rw [cellsB, List.getElem?_eq_getElem (show 1 < xs.length by omega)] at g1
      rw [cellsI, List.getElem?_eq_getElem (show 2 < xs.length by omega)] at g2
      rw [cellsI, List.getElem?_eq_getElem (show 3 < xs.length by omega)] at g3
      rw [cellsI, List.getElem?_eq_getElem (show 4 < xs.length by omega)] at g4
      rw [cells24, List.getElem?_eq_getElem (show 5 < xs.length by omega)] at g5
      rw [cells24, List.getElem?_eq_getElem (show 6 < xs.length by omega)] at g6
      have one : ∀ (k : Nat) (u : Value), (cs.drop k).take 1 = [u] → cs[k]? = some u := fun k u e => by
        have : ((cs.drop k).take 1)[0]? = some u := by rw [e]; rfl
        simpa using this
      obtain ⟨z0, y0, _, _⟩ := DataW.trod_int Try.underlying3 g0
      obtain ⟨z1, y1, _⟩ := DataW.trod_bool Try.underlying4 g1
      obtain ⟨z2, y2, _, _⟩ := DataW.trod_int Try.underlying3 g2
      obtain ⟨z3, y3, _, _⟩ := DataW.trod_int Try.underlying3 g3
      obtain ⟨z4, y4, _, _⟩ := DataW.trod_int Try.underlying3 g4
      obtain ⟨X, x0, x1, x2, x3⟩ := word_of (word_in 5 m g5)
      obtain ⟨Y, u0, u1, u2, u3⟩ := word_of (word_in 9 m g6)
      obtain ⟨ba, bn, bc, y7⟩ : ∃ ba bn bc, (cs.drop 13).take 1 = [Value.slice ba bn bc] := by
        rcases DataW.trod_slice Try.underlying31 g7 with ⟨h9, _⟩ | ⟨a9, l9, c9, _, _, _, _, h9, _⟩
        · exact ⟨_, _, _, h9⟩
        · exact ⟨_, _, _, h9⟩
      refine ⟨⟨z0, z1, z2, z3, z4, X, Y, ba, bn, bc⟩, fun j v hv => ?_⟩
      have hj : j < 14 := by have := (List.getElem?_eq_some_iff.1 hv).1; simpa [OpR.l] using this
      rw [hcell j hj, ← hv]
      obtain rfl | rfl | rfl | rfl | rfl | rfl | rfl | rfl | rfl | rfl | rfl | rfl | rfl | rfl : j = 0 ∨ j = 1 ∨ j = 2 ∨ j = 3 ∨ j = 4 ∨ j = 5 ∨ j = 6 ∨ j = 7 ∨ j = 8 ∨ j = 9 ∨ j = 10 ∨ j = 11 ∨ j = 12 ∨ j = 13 := by omega
      · exact one 0 _ y0
      · exact one 1 _ y1
      · exact one 2 _ y2
      · exact one 3 _ y3
      · exact one 4 _ y4
      · exact x0
      · exact x1
      · exact x2
      · exact x3
      · exact u0
      · exact u1
      · exact u2
      · exact u3
      · exact one 13 _ y7
    obtain ⟨ab, ao, spot⟩ := a
    have hspot : spot = none := by
      obtain ⟨o, ho⟩ := at1 0 (by omega)
      simpa [Addr.add] using World.cell?_spot (ho 0 _ rfl)
    subst hspot
    refine ⟨len, fun i => if h : i < len then (at1 i h).choose else op0, ⟨some ⟨ab, ao, none⟩, cap, rfl, fun _ => ⟨ab, ao, rfl, fun i hi j v hv => ?_⟩⟩, hln⟩
    simp only [hi, dif_pos] at hv
    have h9 := (at1 i hi).choose_spec j v hv
    simpa only [Addr.add_mid] using h9
end Go.Proofs.Ytdddmebihkdkjaa
