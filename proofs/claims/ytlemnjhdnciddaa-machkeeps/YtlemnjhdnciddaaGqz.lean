/- How a list of steps reads, with its words' bounds and its bytes. -/
import Derived.Test.YtlemnjhdnciddaaGpf
import Derived.Test.YtlemnjhdnciddaaUf
import Derived.Test.YtlemnjhdnciddaaUgb
import Derived.ProofKit
import Derived.OpenShut
import Derived.ChangeOld
import Derived.ChangeSlices
import Derived.Lib.SmallJoins
import Derived.SizedLaws
namespace Go.Proofs.Ytlemnjhdnciddaa
open Go.ChangeShapes Go.WideShapes Go.ChangeAt Go.RowKit
theorem cw4 : Try.prog.cellsOf 30 = 4 := by kernel_rfl
theorem cu64 : Try.prog.cellsOf 28 = 1 := by kernel_rfl
theorem ci64 : Try.prog.cellsOf 3 = 1 := by kernel_rfl
theorem csl : Try.prog.cellsOf 31 = 1 := by kernel_rfl
theorem cbo : Try.prog.cellsOf 4 = 1 := by kernel_rfl
theorem cop : Try.prog.cellsOf 33 = 14 := by kernel_rfl
theorem word_in9 {H : Type} {enc : TypeId × Value → H} {W : World} {base : Nat} {held : Bool} {cs : List Value} (off m : Nat) {y : DataW H × List MemPlace}
    (ht : DataW.trod enc Try.prog W base (fun _ => true) held m 30 ((cs.drop off).take 4) = some y) (q : Nat) (hq : q < 4) : ∃ x : Int, cs[off + q]? = some (.int .u64 x) ∧ U64 x := by
  obtain ⟨xs, m', _, _, _, hxs, hxe⟩ := DataW.trod_array Try.underlying30 ht
  have h4 := hxe q hq
  rw [cu64, List.getElem?_eq_getElem (show q < xs.length by omega)] at h4
  obtain ⟨x, hx, _, hw⟩ := DataW.trod_int Try.underlying28 h4
  refine ⟨x, ?_, (bounds_u64 hw).1, by have := (bounds_u64 hw).2; unfold Bd; omega⟩
  rw [Nat.mul_one] at hx
  have h0 : ((((cs.drop off).take 4).drop q).take 1)[0]? = some (Value.int .u64 x) := by rw [hx]; rfl
  simp [hq] at h0
  exact h0
theorem word_of9 {cs : List Value} {off : Nat} (h : ∀ q, q < 4 → ∃ x : Int, cs[off + q]? = some (.int .u64 x) ∧ U64 x) : ∃ X : W4, cs[off]? = some (.int .u64 X.a) ∧ cs[off + 1]? = some (.int .u64 X.b) ∧ cs[off + 2]? = some (.int .u64 X.c) ∧ cs[off + 3]? = some (.int .u64 X.d) ∧ IsW (V X.a X.b X.c X.d) X.a X.b X.c X.d := by
  obtain ⟨a, ha, ua⟩ := h 0 (by omega)
  obtain ⟨b, hb, ub⟩ := h 1 (by omega)
  obtain ⟨c, hc, uc⟩ := h 2 (by omega)
  obtain ⟨d, hd, ud⟩ := h 3 (by omega)
  exact ⟨⟨a, b, c, d⟩, ha, hb, hc, hd, isW_mk ua ub uc ud⟩
/-- bytes within a list's element -/
theorem openByE {H : Type} {enc : TypeId × Value → H} {W : World} {base fuel : Nat} {held : Bool} {cs : List Value} {x : DataW H × List MemPlace} (h : DataW.trod enc Try.prog W base (fun _ => true) held fuel 31 cs = some x) :
    ∃ ad n cap, ∃ u : Nat → Nat, cs = [.slice ad n cap] ∧ (∀ i, u i < 256) ∧ n ≤ cap ∧ (0 < n → ∃ g a, ad = some ⟨g, a, none⟩ ∧ ByC W g a n u) ∧ (n = 0 ∨ ∃ k, n ≤ k ∧ k ∈ x.1.weights Try.prog 31) := by
  rcases DataW.trod_slice Try.underlying31 h with ⟨hcs, hx⟩ | ⟨a, len, cap, elems, rest, n, _, hcs, hx, hb, hl, hm, hlen, hel, _, _⟩
  · exact ⟨none, 0, 0, fun _ => 0, hcs, fun _ => (by decide : (0 : Nat) < 256), by omega, fun h => absurd h (by omega), Or.inl rfl⟩
  · rw [cells8] at hel
    have hd : x.1 = .slice (elems.map (·.1)) (rest.map (·.1)) := congrArg Prod.fst hx
    have hwt : len = 0 ∨ ∃ k, len ≤ k ∧ k ∈ x.1.weights Try.prog 31 := by
      refine Or.inr ⟨elems.length * Try.prog.bytesOf 5 + rest.length * Try.prog.bytesOf 5, ?_, ?_⟩
      · have hb8 : Try.prog.bytesOf 5 = 1 := by kernel_rfl
        rw [hb8]; omega
      · rw [hd]
        simp only [DataW.weights, Try.underlying31, List.mem_cons, List.mem_append]
        left
        simp [Nat.add_mul]
    by_cases hne : len = 0
    · exact ⟨some a, len, cap, fun _ => 0, hcs, fun _ => (by decide : (0 : Nat) < 256), hl, fun e => absurd hne (by omega), hwt⟩
    have at1 : ∀ i, i < len → ∃ z : Nat, W.cell? (a.add i) = some (.int .u8 (z : Int)) ∧ z < 256 := by
      intro i hi
      have he := hel i hi
      rw [List.getElem?_eq_getElem (show i < elems.length by omega), Option.bind_eq_some_iff] at he
      obtain ⟨cs, hc, ht⟩ := he
      obtain ⟨_, hl4, hcell⟩ := World.cells?_some hc
      obtain ⟨z, hz, _, hw⟩ := DataW.trod_int Try.underlying5 ht
      obtain ⟨zn, rfl⟩ : ∃ zn : Nat, z = (zn : Int) := ⟨z.toNat, by have := (bounds_u8 hw).1; omega⟩
      refine ⟨zn, ?_, by have := (bounds_u8 hw).2; omega⟩
      have h9 := hcell 0 (by omega)
      rw [hz] at h9
      simpa [Addr.add] using h9
    obtain ⟨ab, ao, spot⟩ := a
    have hspot : spot = none := by
      obtain ⟨z, hz, _⟩ := at1 0 (by omega)
      simpa [Addr.add] using World.cell?_spot hz
    subst hspot
    refine ⟨some ⟨ab, ao, none⟩, len, cap, fun i => if h : i < len then (at1 i h).choose else 0, hcs, fun i => ?_, hl, fun _ => ⟨ab, ao, rfl, fun i hi => ?_⟩, hwt⟩
    · dsimp only
      split
      · rename_i h; exact (at1 i h).choose_spec.2
      · omega
    · simp only [hi, dif_pos]
      have h9 := (at1 i hi).choose_spec.1
      simpa only [Addr.add_mid] using h9
theorem wAll_mem {H : Type} {P : Program} {e : TypeId} : ∀ {l : List (DataW H)} {d : DataW H}, d ∈ l → ∀ n ∈ d.weights P e, n ∈ DataW.weightsAll P e l
  | d' :: r, d, hd, n, hn => by
    simp only [DataW.weightsAll, List.mem_append]
    rcases List.mem_cons.1 hd with rfl | h
    · exact Or.inl hn
    · exact Or.inr (wAll_mem h n hn)
/-- one step as it lies in memory -/
structure OpR where
  kd : Int
  tw : Bool
  N : Int
  M : Int
  P : Int
  X : W4
  Y : W4
  ba : Option Addr
  bn : Nat
  bc : Nat
  u : Nat → Nat
abbrev OpR.B (o : OpR) : Value := .slice o.ba o.bn o.bc
def OpR.l (o : OpR) : List Value := [.int .i64 o.kd, .bool o.tw, .int .i64 o.N, .int .i64 o.M, .int .i64 o.P, .int .u64 o.X.a, .int .u64 o.X.b, .int .u64 o.X.c, .int .u64 o.X.d, .int .u64 o.Y.a, .int .u64 o.Y.b, .int .u64 o.Y.c, .int .u64 o.Y.d, o.B]
def OpAt (W : World) (g a : Nat) (o : OpR) : Prop := ∀ j v, o.l[j]? = some v → W.cell? ⟨g, a + j, none⟩ = some v
/-- what holds of one step: its bounds, its bytes -/
def OpOk (W : World) (o : OpR) : Prop := (o.N ≤ 9223372036854775807 ∧ o.M ≤ 9223372036854775807 ∧ o.P ≤ 9223372036854775807) ∧ IsW (V o.X.a o.X.b o.X.c o.X.d) o.X.a o.X.b o.X.c o.X.d ∧ IsW (V o.Y.a o.Y.b o.Y.c o.Y.d) o.Y.a o.Y.b o.Y.c o.Y.d ∧ By W o.B o.bn o.u ∧ (∀ i, o.u i < 256) ∧ (-9223372036854775808 ≤ o.N ∧ -9223372036854775808 ≤ o.M ∧ -9223372036854775808 ≤ o.P)
def OpsAt (W : World) (v : Value) (n : Nat) (o : Nat → OpR) : Prop := ∃ ad cap, v = .slice ad n cap ∧ (0 < n → ∃ g a, ad = some ⟨g, a, none⟩ ∧ ∀ i, i < n → OpAt W g (a + i * 14) (o i) ∧ OpOk W (o i))
def op0z : OpR := ⟨0, false, 0, 0, 0, wz, wz, none, 0, 0, fun _ => 0⟩
theorem uOp : ∃ fs : Array Field, Try.prog.underlying 33 = some (.struct fs) ∧ fs.size = 8 ∧ fs.toList.map (·.type) = [3, 4, 3, 3, 3, 30, 30, 31] := ⟨_, Try.underlying33, by kernel_rfl, by kernel_rfl⟩
set_option maxRecDepth 100000 in
theorem openOps {H : Type} {enc : TypeId × Value → H} {W : World} {base b0 : Nat} {r : Reach} {held : Bool} {v : Value} {d : DataW H} {ps : List MemPlace}
    (hv : Value.okWide Try.prog W r b0 22 v) (h : DataW.Trod enc Try.prog W base (fun _ => true) held 22 v d ps) (hs : ∀ k ∈ d.weights Try.prog 22, k ≤ reachBytes) :
    ∃ n o, OpsAt W v n o ∧ n ≤ 1099511627776 := by
  obtain ⟨a1, len, cap, rfl⟩ := okWide_slice Try.underlying22 hv
  obtain ⟨fuel, hf⟩ := h
  rcases DataW.trod_slice Try.underlying22 hf with ⟨hcs, hx⟩ | ⟨a, len', cap', elems, rest, n, _, hcs, hx, hb, hl, hm, hlen, hel, _, _⟩
  · simp [Value.cells] at hcs
    obtain ⟨rfl, rfl, rfl⟩ := hcs
    exact ⟨0, fun _ => op0z, ⟨none, 0, rfl, fun e => absurd e (by omega)⟩, by omega⟩
  · simp [Value.cells] at hcs
    obtain ⟨rfl, rfl, rfl⟩ := hcs
    rw [cop] at hel
    have hd : d = .slice (elems.map (·.1)) (rest.map (·.1)) := congrArg Prod.fst hx
    have hln : len ≤ 1099511627776 := by
      have hk := hs (elems.length * Try.prog.bytesOf 33 + rest.length * Try.prog.bytesOf 33) (by
        rw [hd]
        simp only [DataW.weights, Try.underlying22, List.mem_cons, List.mem_append]
        left
        simp [Nat.add_mul])
      have hb128 : Try.prog.bytesOf 33 = 128 := by kernel_rfl
      rw [hb128] at hk
      unfold reachBytes at hk
      omega
    by_cases hne : len = 0
    · exact ⟨len, fun _ => op0z, ⟨some a, cap, rfl, fun e => absurd hne (by omega)⟩, hln⟩
    have at1 : ∀ i, i < len → ∃ o : OpR, (∀ j v, o.l[j]? = some v → W.cell? ((a.add (i * 14)).add j) = some v) ∧ OpOk W o := by
      intro i hi
      have he := hel i hi
      have hil : i < elems.length := by omega
      rw [List.getElem?_eq_getElem hil, Option.bind_eq_some_iff] at he
      obtain ⟨cs, hc, ht⟩ := he
      obtain ⟨_, hl14, hcell⟩ := World.cells?_some hc
      obtain ⟨xs, m, _, hy, hcl, hxs, hfs⟩ := DataW.trod_struct Try.underlying33 ht
      have hx8 : xs.length = 8 := hxs
      have g0 : DataW.trod enc Try.prog W base (fun _ => true) held m 3 ((cs.drop 0).take (Try.prog.cellsOf 3)) = xs[0]? := hfs 0 _ rfl
      have g1 : DataW.trod enc Try.prog W base (fun _ => true) held m 4 ((cs.drop 1).take (Try.prog.cellsOf 4)) = xs[1]? := hfs 1 _ rfl
      have g2 : DataW.trod enc Try.prog W base (fun _ => true) held m 3 ((cs.drop 2).take (Try.prog.cellsOf 3)) = xs[2]? := hfs 2 _ rfl
      have g3 : DataW.trod enc Try.prog W base (fun _ => true) held m 3 ((cs.drop 3).take (Try.prog.cellsOf 3)) = xs[3]? := hfs 3 _ rfl
      have g4 : DataW.trod enc Try.prog W base (fun _ => true) held m 3 ((cs.drop 4).take (Try.prog.cellsOf 3)) = xs[4]? := hfs 4 _ rfl
      have g5 : DataW.trod enc Try.prog W base (fun _ => true) held m 30 ((cs.drop 5).take (Try.prog.cellsOf 30)) = xs[5]? := hfs 5 _ rfl
      have g6 : DataW.trod enc Try.prog W base (fun _ => true) held m 30 ((cs.drop 9).take (Try.prog.cellsOf 30)) = xs[6]? := hfs 6 _ rfl
      have g7 : DataW.trod enc Try.prog W base (fun _ => true) held m 31 ((cs.drop 13).take (Try.prog.cellsOf 31)) = xs[7]? := hfs 7 _ rfl
      rw [ci64, List.getElem?_eq_getElem (show 0 < xs.length by omega)] at g0
      rw [cbo, List.getElem?_eq_getElem (show 1 < xs.length by omega)] at g1
      rw [ci64, List.getElem?_eq_getElem (show 2 < xs.length by omega)] at g2
      rw [ci64, List.getElem?_eq_getElem (show 3 < xs.length by omega)] at g3
      rw [ci64, List.getElem?_eq_getElem (show 4 < xs.length by omega)] at g4
      rw [cw4, List.getElem?_eq_getElem (show 5 < xs.length by omega)] at g5
      rw [cw4, List.getElem?_eq_getElem (show 6 < xs.length by omega)] at g6
      rw [csl, List.getElem?_eq_getElem (show 7 < xs.length by omega)] at g7
      have one : ∀ (k : Nat) (u : Value), (cs.drop k).take 1 = [u] → cs[k]? = some u := fun k u e => by
        have : ((cs.drop k).take 1)[0]? = some u := by rw [e]; rfl
        simpa using this
      obtain ⟨z0, y0, _, _⟩ := DataW.trod_int Try.underlying3 g0
      obtain ⟨z1, y1, _⟩ := DataW.trod_bool Try.underlying4 g1
      obtain ⟨z2, y2, _, w2⟩ := DataW.trod_int Try.underlying3 g2
      obtain ⟨z3, y3, _, w3⟩ := DataW.trod_int Try.underlying3 g3
      obtain ⟨z4, y4, _, w4⟩ := DataW.trod_int Try.underlying3 g4
      obtain ⟨X, x0, x1, x2, x3, iX⟩ := word_of9 (word_in9 5 m g5)
      obtain ⟨Y, u0, u1, u2, u3, iY⟩ := word_of9 (word_in9 9 m g6)
      obtain ⟨ba, bn, bc, u, y7, hu, hbc, hby, hw⟩ := openByE g7
      have hbn : bn ≤ 140737488355328 := by
        rcases hw with h0 | ⟨k2, hk, hkw⟩
        · omega
        · refine Nat.le_trans hk (Nat.le_trans (hs k2 ?_) (by unfold reachBytes; omega))
          rw [hd]
          simp only [DataW.weights, Try.underlying22, List.mem_cons, List.mem_append]
          refine Or.inr (Or.inl (wAll_mem (List.mem_map.2 ⟨elems[i], List.getElem_mem hil, rfl⟩) _ ?_))
          rw [hy]
          obtain ⟨fs, hU, _, hty⟩ := uOp
          simp only [DataW.weights, hU]
          exact DataW.weights_mem_each (j := 7) (t := 31) (d := xs[7].1) (by rw [hty]; rfl) (by rw [List.getElem?_map, List.getElem?_eq_getElem (show 7 < xs.length by omega)]; rfl) _ hkw
      have b2 := bounds_i64 w2
      have b3 := bounds_i64 w3
      have b4 := bounds_i64 w4
      refine ⟨⟨z0, z1, z2, z3, z4, X, Y, ba, bn, bc, u⟩, fun j v hv => ?_, ⟨b2.2, b3.2, b4.2⟩, iX, iY, ⟨ba, bc, rfl, hbc, Nat.le_trans hbn (by omega), hby⟩, hu, b2.1, b3.1, b4.1⟩
      have hj : j < 14 := by have := (List.getElem?_eq_some_iff.1 hv).1; simpa [OpR.l] using this
      rw [hcell j hj, ← hv]
      obtain rfl | rfl | rfl | rfl | rfl | rfl | rfl | rfl | rfl | rfl | rfl | rfl | rfl | rfl : j = 0 ∨ j = 1 ∨ j = 2 ∨ j = 3 ∨ j = 4 ∨ j = 5 ∨ j = 6 ∨ j = 7 ∨ j = 8 ∨ j = 9 ∨ j = 10 ∨ j = 11 ∨ j = 12 ∨ j = 13 := by omega
      · exact one 0 _ y0
      · exact one 1 _ y1
      · exact one 2 _ y2
      · exact one 3 _ y3
      · exact one 4 _ y4
      · exact x0
      · exact x1
      · exact x2
      · exact x3
      · exact u0
      · exact u1
      · exact u2
      · exact u3
      · exact one 13 _ y7
    obtain ⟨ab, ao, spot⟩ := a
    have hspot : spot = none := by
      obtain ⟨o, ho, _⟩ := at1 0 (by omega)
      simpa [Addr.add] using World.cell?_spot (ho 0 _ rfl)
    subst hspot
    refine ⟨len, fun i => if h : i < len then (at1 i h).choose else op0z, ⟨some ⟨ab, ao, none⟩, cap, rfl, fun _ => ⟨ab, ao, rfl, fun i hi => ?_⟩⟩, hln⟩
    simp only [hi, dif_pos]
    refine ⟨fun j v hv => ?_, (at1 i hi).choose_spec.2⟩
    have h9 := (at1 i hi).choose_spec.1 j v hv
    simpa only [Addr.add_mid] using h9
end Go.Proofs.Ytlemnjhdnciddaa
