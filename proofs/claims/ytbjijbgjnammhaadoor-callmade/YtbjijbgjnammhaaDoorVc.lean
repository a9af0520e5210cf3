/- The document's 'at' and 'offset'; what holds while a part of a round makes its new state. -/
import Derived.Test.YtbjijbgjnammhaaDoorVb
import Derived.Test.YtbjijbgjnammhaaDoorEv
namespace Go.Proofs.YtbjijbgjnammhaaDoor
open Go.RowKit
set_option maxHeartbeats 1000000 in
set_option maxRecDepth 100000 in
theorem at_is (x y z : Int) (r : Nat) (W : World) (hx : -5 ≤ x) (hx' : x ≤ 10) (hy : -5 ≤ y) (hy' : y ≤ 10) (hz : -64 ≤ z) (hz' : z ≤ 200) (hr : 64 * ((x + 5) % 5 + 5 * ((y + 5) % 5)) + (z + 64) % 64 = (r : Int)) :
    Calls Tryd.prog 26 #[.int .i64 x, .int .i64 y, .int .i64 z] W fun e w' => e = .returned (.int .i64 (r : Int)) ∧ w' = W := by
  obtain ⟨a, ea⟩ : ∃ a : Int, x + 5 = a := ⟨_, rfl⟩
  obtain ⟨b, eb⟩ : ∃ b : Int, a % 5 = b := ⟨_, rfl⟩
  obtain ⟨c, ec⟩ : ∃ c : Int, y + 5 = c := ⟨_, rfl⟩
  obtain ⟨d, ed⟩ : ∃ d : Int, c % 5 = d := ⟨_, rfl⟩
  obtain ⟨f, ef⟩ : ∃ f : Int, 5 * d = f := ⟨_, rfl⟩
  obtain ⟨g, eg⟩ : ∃ g : Int, b + f = g := ⟨_, rfl⟩
  obtain ⟨h, eh⟩ : ∃ h : Int, 64 * g = h := ⟨_, rfl⟩
  obtain ⟨i, ei⟩ : ∃ i : Int, z + 64 = i := ⟨_, rfl⟩
  obtain ⟨j, ej⟩ : ∃ j : Int, i % 64 = j := ⟨_, rfl⟩
  rw [ea, eb, ec, ed, ef, eg, eh, ei, ej] at hr
  have tb : Int.tmod a 5 = b := by rw [Int.tmod_eq_emod_of_nonneg (by omega), eb]
  have td : Int.tmod c 5 = d := by rw [Int.tmod_eq_emod_of_nonneg (by omega), ed]
  have tj : Int.tmod i 64 = j := by rw [Int.tmod_eq_emod_of_nonneg (by omega), ej]
  have w1 : IntKind.i64.wrap a = a := by rw [IntKind.wrap_i64]; omega
  have w2 : IntKind.i64.wrap b = b := by rw [IntKind.wrap_i64]; omega
  have w3 : IntKind.i64.wrap c = c := by rw [IntKind.wrap_i64]; omega
  have w4 : IntKind.i64.wrap d = d := by rw [IntKind.wrap_i64]; omega
  have w5 : IntKind.i64.wrap f = f := by rw [IntKind.wrap_i64]; omega
  have w6 : IntKind.i64.wrap g = g := by rw [IntKind.wrap_i64]; omega
  have w7 : IntKind.i64.wrap h = h := by rw [IntKind.wrap_i64]; omega
  have w8 : IntKind.i64.wrap i = i := by rw [IntKind.wrap_i64]; omega
  have w9 : IntKind.i64.wrap j = j := by rw [IntKind.wrap_i64]; omega
  have w10 : IntKind.i64.wrap (r : Int) = (r : Int) := by rw [IntKind.wrap_i64]; omega
  clear eb ed ej hx hx' hy hy' hz hz'
  go_enter Tryd.func26, Tryd.ntmps26
  go_wp2
  go_ret
  exact ⟨rfl, rfl⟩
theorem at_to (x y z : Int) (a b c : Nat) (W : World) (hx : -5 ≤ x) (hx' : x ≤ 10) (hy : -5 ≤ y) (hy' : y ≤ 10) (hz : -64 ≤ z) (hz' : z ≤ 200) (h1 : (x + 5) % 5 = (a : Int)) (h2 : (y + 5) % 5 = (b : Int)) (h3 : (z + 64) % 64 = (c : Int)) (r : Nat) (hr : r = 64 * (a + 5 * b) + c) :
    Calls Tryd.prog 26 #[.int .i64 x, .int .i64 y, .int .i64 z] W fun e w' => e = .returned (.int .i64 (r : Int)) ∧ w' = W :=
  at_is x y z r W hx hx' hy hy' hz hz' (by rw [h1, h2, h3]; omega)
set_option maxRecDepth 1000000 in
theorem offset_all (w : World) : ((List.range 25).map fun i => evC Tryd.prog 4000 27 #[.int .i64 (Int.ofNat (i % 5)), .int .i64 (Int.ofNat (i / 5))] w) = (List.range 25).map fun i => some (.int .i64 (Int.ofNat (turnL.getD i 0)), w) := by kernel_rfl
theorem offset_is (x y : Nat) (hx : x < 5) (hy : y < 5) (w : World) : Calls Tryd.prog 27 #[.int .i64 (x : Int), .int .i64 (y : Int)] w fun e w' => e = .returned (.int .i64 ((turnL.getD (x + 5 * y) 0 : Nat) : Int)) ∧ w' = w := by
  have g := at_range (offset_all w) (x + 5 * y) (by omega)
  rw [show (x + 5 * y) % 5 = x by omega, show (x + 5 * y) / 5 = y by omega] at g
  exact evC_calls g
/-- the state F lies in the first block, the first c of the new numbers (in the order t) in the third -/
def StInv (w : World) (F g t : Nat → Nat) (c : Nat) (W : World) : Prop :=
  Below w.heap.size w W ∧ RowI W w.heap.size 1600 F ∧ RowI W (w.heap.size + 1) 1600 (fun _ => 0) ∧ ∃ u : Nat → Nat, RowI W (w.heap.size + 1 + 1) 1600 u ∧ Up g t c u
theorem StInv.start {w W1 W2 : World} {cs : Array Value} {F : Nat → Nat} (hcs : cs = (intsD F 1600).toArray) (g t : Nat → Nat) (h1 : NewSt (w.alloc (.cells cs 47)) W1 fun _ => 0) (h2 : NewSt W1 W2 fun _ => 0) : StInv w F g t 0 W2 := by
  subst hcs
  have r0 := RowI.new w 47 1600 F
  have s0 : (w.alloc (.cells (intsD F 1600).toArray 47)).heap.size = w.heap.size + 1 := by simp
  have b0 : Below w.heap.size w (w.alloc (.cells (intsD F 1600).toArray 47)) := (Below.refl _ _).alloc (Nat.le_refl _) _
  have s1 := h1.siz
  have q1 := h1.row
  have q2 := h2.row
  rw [s0] at s1 q1
  rw [s1] at q2
  have b1 : Below w.heap.size w W1 := b0.trans (h1.bel.mono b0.size)
  exact ⟨b1.trans (h2.bel.mono b1.size), (r0.past h1.bel).past h2.bel, q1.past h2.bel, _, q2, Up.zero _ _ _⟩
theorem StInv.cell {w W : World} {F g t : Nat → Nat} {c : Nat} (h : StInv w F g t c W) (i : Nat) (hi : i < 1600) : W.cell? ⟨w.heap.size, i, none⟩ = some (.int .i64 (F i : Int)) := (h.2.1 i hi).1
theorem StInv.room {w W : World} {F g t : Nat → Nat} {c : Nat} (h : StInv w F g t c W) (i : Nat) (hi : i < 1600) : ∃ z : Int, W.cell? ⟨w.heap.size + 1 + 1, i, none⟩ = some (.int .i64 z) ∧ W.frozen? ⟨w.heap.size + 1 + 1, i, none⟩ = false := by
  obtain ⟨_, _, _, u, hU, _⟩ := h
  exact ⟨u i, hU i hi⟩
theorem StInv.set {w W : World} {F g t : Nat → Nat} {c s v : Nat} (h : StInv w F g t c W) (hs : t c = s) (hv : v = g s) (hi : ∀ k, k < c → t k ≠ t c) : StInv w F g t (c + 1) (W.setCell ⟨w.heap.size + 1 + 1, s, none⟩ (.int .i64 (v : Int))) := by
  obtain ⟨hB, hA, hZ, u, hU, hu⟩ := h
  exact ⟨hB.setCell (by simp; omega) _, hA.set_other _ _ (by simp; omega), hZ.set_other _ _ (by simp), _, hU.set s v, hu.set hs hv hi⟩
theorem StInv.drewN {w W : World} {F g t : Nat → Nat} {c : Nat} (h : StInv w F g t c W) (n : Nat) : StInv w F g t c (W.drewN n) := by
  obtain ⟨hB, hA, hZ, u, hU, hu⟩ := h
  exact ⟨bdrewN hB n, hA.drewN n, hZ.drewN n, u, hU.drewN n, hu⟩
theorem StInv.drew {w W : World} {F g t : Nat → Nat} {c : Nat} (h : StInv w F g t c W) : StInv w F g t c W.drew := by
  obtain ⟨hB, hA, hZ, u, hU, hu⟩ := h
  exact ⟨hB.drew, hA.drew, hZ.drew, u, hU.drew, hu⟩
theorem StInv.fin {w W : World} {F g t : Nat → Nat} (h : StInv w F g t 1600 W) (hs : ∀ i, i < 1600 → ∃ k, k < 1600 ∧ t k = i) :
    RowI W (w.heap.size + 1 + 1) 1600 g ∧ RowI W (w.heap.size + 1) 1600 (fun _ => 0) ∧ RowI (W.setCells (w.heap.size + 1) 0 (intsD g 1600)) (w.heap.size + 1) 1600 g ∧ Below w.heap.size w (W.setCells (w.heap.size + 1) 0 (intsD g 1600)) := by
  obtain ⟨hB, hA, hZ, u, hU, hu⟩ := h
  exact ⟨hU.ext (hu.all hs), hZ, hZ.of_range, below_setCells _ (by omega) _ _ _ hB⟩
end Go.Proofs.YtbjijbgjnammhaaDoor
