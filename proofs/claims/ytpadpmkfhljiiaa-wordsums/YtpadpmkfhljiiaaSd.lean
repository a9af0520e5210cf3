/- WordSums: lists of words that the law makes itself. -/
import Derived.Test.YtpadpmkfhljiiaaSb
import Derived.Test.YtpadpmkfhljiiaaRh
import Derived.Laws.AppendOwnNone
import Derived.Deep.QuietTactic
import Derived.BigQuiet
namespace Go.Proofs.Ytpadpmkfhljiiaa
open Go.RowKit
/-- cells of words, which may be written -/
def RowW (W : World) (g N : Nat) (b : Nat → Nat → Int) : Prop := ∀ i, i < N → ∀ q, q < 4 → W.cell? ⟨g, i * 4 + q, none⟩ = some (.int .u64 (b i q)) ∧ W.frozen? ⟨g, i * 4 + q, none⟩ = false
theorem RowW.own {W : World} {B g N c : Nat} {b : Nat → Nat → Int} (h : W.ownsRow B 24 4 (.slice (some ⟨g, 0, none⟩) N c) N (cellsW b N)) : RowW W g N b := fun i hi q hq =>
  ⟨by rw [h.cellAt (i * 4 + q) (by omega), cellsW_at b i q hq N hi], h.frozenAt _⟩
theorem RowW.lt {W : World} {g N : Nat} {b : Nat → Nat → Int} (h : RowW W g N b) (hN : 0 < N) : g < W.heap.size := World.block_lt_of_cell? W _ (h 0 hN 0 (by omega)).1
theorem RowW.below {W W' : World} {B g N : Nat} {b : Nat → Nat → Int} (h : RowW W g N b) (k : Below B W W') (hg : g < B) : RowW W' g N b := fun i hi q hq =>
  ⟨(k.cell (p := ⟨g, i * 4 + q, none⟩) hg).trans (h i hi q hq).1, (k.frozen (p := ⟨g, i * 4 + q, none⟩) hg).trans (h i hi q hq).2⟩
theorem RowW.words {W : World} {g N n c : Nat} {b : Nat → Nat → Int} (h : RowW W g N b) (hn : n ≤ N) (hu : ∀ i q, U64 (b i q)) (hm : n ≤ 1048576) : WordsAt W (.slice (some ⟨g, 0, none⟩) n c) n b :=
  ⟨hm, hu, _, c, rfl, fun _ => ⟨g, 0, rfl, fun i hi q hq => by rw [Nat.zero_add]; exact (h i (by omega) q hq).1⟩⟩
/-- one word is laid over another -/
def setW (b : Nat → Nat → Int) (k : Nat) (x0 x1 x2 x3 : Int) (i q : Nat) : Int := if i = k then limb x0 x1 x2 x3 q else b i q
def put4at (W : World) (g o : Nat) (s0 s1 s2 s3 : Int) : World := (((W.setCell ⟨g, o, none⟩ (.int .u64 s0)).setCell ⟨g, o + 1, none⟩ (.int .u64 s1)).setCell ⟨g, o + 2, none⟩ (.int .u64 s2)).setCell ⟨g, o + 3, none⟩ (.int .u64 s3)
theorem RowW.put {W : World} {g N : Nat} {b : Nat → Nat → Int} (h : RowW W g N b) (k : Nat) (hk : k < N) (x0 x1 x2 x3 : Int) : RowW (put4at W g (k * 4) x0 x1 x2 x3) g N (setW b k x0 x1 x2 x3) := by
  have c0 := (h k hk 0 (by omega)).1
  have c1 := (h k hk 1 (by omega)).1
  have c2 := (h k hk 2 (by omega)).1
  have c3 := (h k hk 3 (by omega)).1
  rw [Nat.add_zero] at c0
  intro i hi q hq
  refine ⟨?_, by unfold put4at; simp only [World.frozen?_setCell]; exact (h i hi q hq).2⟩
  unfold put4at setW
  have oth : ∀ (W : World) (o : Nat) (x : Value), i * 4 + q ≠ o → (W.setCell ⟨g, o, none⟩ x).cell? ⟨g, i * 4 + q, none⟩ = W.cell? ⟨g, i * 4 + q, none⟩ := fun W o x ne => World.cell?_setCell_other _ _ _ _ (by intro e'; injection e' with _ e' _; exact ne e'.symm)
  by_cases e : i = k
  · subst e
    rw [if_pos rfl]
    have z : ∀ (o1 o2 : Nat) (W : World) (x y : Value), o1 ≠ o2 → W.cell? ⟨g, o1, none⟩ = some y → (W.setCell ⟨g, o2, none⟩ x).cell? ⟨g, o1, none⟩ = some y := fun o1 o2 W x y ne h => by
      rw [World.cell?_setCell_other _ _ _ _ (by intro e'; injection e' with _ e' _; exact ne e'.symm)]; exact h
    obtain rfl | rfl | rfl | rfl : q = 0 ∨ q = 1 ∨ q = 2 ∨ q = 3 := by omega
    · rw [Nat.add_zero]
      exact z _ _ _ _ _ (by omega) (z _ _ _ _ _ (by omega) (z _ _ _ _ _ (by omega) (World.cell?_setCell_same _ _ _ c0)))
    · exact z _ _ _ _ _ (by omega) (z _ _ _ _ _ (by omega) (World.cell?_setCell_same _ _ _ (z _ _ _ _ _ (by omega) c1)))
    · exact z _ _ _ _ _ (by omega) (World.cell?_setCell_same _ _ _ (z _ _ _ _ _ (by omega) (z _ _ _ _ _ (by omega) c2)))
    · exact World.cell?_setCell_same _ _ _ (z _ _ _ _ _ (by omega) (z _ _ _ _ _ (by omega) (z _ _ _ _ _ (by omega) c3)))
  · rw [if_neg e, oth _ _ _ (by omega), oth _ _ _ (by omega), oth _ _ _ (by omega), oth _ _ _ (by omega)]
    exact (h i hi q hq).1
theorem setW_u {b : Nat → Nat → Int} (hu : ∀ i q, U64 (b i q)) (k : Nat) {x0 x1 x2 x3 : Int} (h0 : U64 x0) (h1 : U64 x1) (h2 : U64 x2) (h3 : U64 x3) (i q : Nat) : U64 (setW b k x0 x1 x2 x3 i q) := by
  unfold setW; split
  · exact limb_u64 h0 h1 h2 h3 q
  · exact hu i q
theorem below_put4at {B g : Nat} {w W : World} (h : Below B w W) (hg : B ≤ g) (o : Nat) (s0 s1 s2 s3 : Int) : Below B w (put4at W g o s0 s1 s2 s3) := (((h.setCell hg _).setCell hg _).setCell hg _).setCell hg _
/-- the list and nine words behind it -/
def extA (a : Nat → Nat → Int) (n i q : Nat) : Int := if i < n then a i q else limb 77 0 0 ((i - n : Nat) % 18446744073709551616 : Int) q
theorem extA_u {a : Nat → Nat → Int} (hu : ∀ i q, U64 (a i q)) (n i q : Nat) : U64 (extA a n i q) := by
  unfold extA; split
  · exact hu i q
  · exact limb_u64 (u64_lit _ (by omega) (by omega)) (u64_lit _ (by omega) (by omega)) (u64_lit _ (by omega) (by omega)) ⟨by omega, by unfold Bd; omega⟩ q
theorem cellsW_ext {a b : Nat → Nat → Int} : ∀ k, (∀ i, i < k → a i = b i) → cellsW a k = cellsW b k
  | 0, _ => rfl
  | k + 1, h => by rw [cellsW, cellsW, cellsW_ext k (fun i hi => h i (by omega)), h k (by omega)]
theorem extA_low (a : Nat → Nat → Int) (n i : Nat) (h : i < n) : extA a n i = a i := by funext q; unfold extA; rw [if_pos h]
theorem cellsW_ext_all {a : Nat → Nat → Int} {W : World} {g o n : Nat} (h : ∀ i, i < n → ∀ q, q < 4 → W.cell? ⟨g, o + i * 4 + q, none⟩ = some (.int .u64 (a i q))) (j : Nat) (u : Value) (hj : (cellsW a n)[j]? = some u) : W.cell? (Addr.add ⟨g, o, none⟩ j) = some u := by
  have hl : j < n * 4 := by have := (List.getElem?_eq_some_iff.1 hj).1; rwa [cellsW_len] at this
  have h1 := cellsW_at a (j / 4) (j % 4) (by omega) n (by omega)
  rw [show j / 4 * 4 + j % 4 = j by omega, hj] at h1
  have h2 := h (j / 4) (by omega) (j % 4) (by omega)
  rw [show o + j / 4 * 4 + j % 4 = o + j by omega] at h2
  rw [Addr.add_mid, h2, ← h1]
theorem cellsW_one (a : Nat → Nat → Int) : ∀ k, ∀ u ∈ cellsW a k, u.oneCell' = true
  | 0, u, h => by simp [cellsW] at h
  | k + 1, u, h => by
    rw [cellsW, List.mem_append] at h
    rcases h with h | h
    · exact cellsW_one a k u h
    · simp at h; rcases h with rfl | rfl | rfl | rfl <;> rfl
theorem owns_empty (w : World) : (w.alloc (.cells #[] 24)).ownsRow w.heap.size 24 4 (.slice (some ⟨w.heap.size, 0, none⟩) 0 0) 0 [] :=
  ⟨rfl, .inr ⟨w.heap.size, 0, #[], rfl, Nat.le_refl _, Array.getElem?_push_size, Nat.le_refl _, by unfold maxLen; omega, rfl, rfl⟩⟩
theorem xor_u64 (x : Int) (h : U64 x) : U64 (bits .xor .u64 IntKind.u64.max x) := by
  have hm : IntKind.u64.max = 18446744073709551615 := by decide
  have h1 := h.2
  unfold Bd at h1
  rw [hm, u64_xor _ _ (by omega) (by omega) h.1 (by omega)]
  have : (18446744073709551615 : Int).toNat ^^^ x.toNat < 2 ^ 64 := Nat.xor_lt_two_pow (by decide) (by omega)
  exact ⟨by omega, by unfold Bd; omega⟩
set_option maxHeartbeats 1000000 in
set_option maxRecDepth 100000 in
theorem not_ex (a0 a1 a2 a3 : Int) (w : World) (h0 : U64 a0) (h1 : U64 a1) (h2 : U64 a2) (h3 : U64 a3) : Calls Try.prog 32 #[.agg #[.int .u64 a0, .int .u64 a1, .int .u64 a2, .int .u64 a3]] w fun e w' => ∃ s0 s1 s2 s3 : Int, e = .returned (.agg #[.int .u64 s0, .int .u64 s1, .int .u64 s2, .int .u64 s3]) ∧ (U64 s0 ∧ U64 s1 ∧ U64 s2 ∧ U64 s3) ∧ Below w.heap.size w w' := by
  go_enter Try.func32, Try.ntmps32
  go_wp2
  refine wp_loop_rounds 5 ?_
  rw [rounds_succ]
  go_wp2
  rw [rounds_succ]
  go_wp2
  rw [rounds_succ]
  go_wp2
  rw [rounds_succ]
  go_wp2
  rw [rounds_succ]
  go_wp2
  exact bodyPost_ret (v := .agg #[.int .u64 (bits .xor .u64 IntKind.u64.max a0), .int .u64 (bits .xor .u64 IntKind.u64.max a1), .int .u64 (bits .xor .u64 IntKind.u64.max a2), .int .u64 (bits .xor .u64 IntKind.u64.max a3)]) (by simp [results, Try.results32, go_sem]) rfl ⟨_, _, _, _, rfl, ⟨xor_u64 a0 h0, xor_u64 a1 h1, xor_u64 a2 h2, xor_u64 a3 h3⟩, by repeat' (first | with_reducible exact Below.refl _ _ | with_reducible exact Below.refl _ _ | with_reducible refine Below.drew ?_ | with_reducible refine bdrewN ?_ _ | with_reducible refine Below.alloc ?_ ?_ _ | with_reducible refine Below.setCell ?_ ?_ _ | omega | (simp; done) | (simp; omega))⟩
end Go.Proofs.Ytpadpmkfhljiiaa
