/- WordPlainSums: lists of words turned round; one step of the law's own sum. -/
import Derived.Test.YtpadpmkfhljiiaaSa
import Derived.Test.YtpadpmkfhljiiaaWd
import Derived.OwnWalk
import Derived.Laws.OwnMore
import Derived.Deep.DeepCutAuto
import Derived.Deep.RegionHeld3
namespace Go.Proofs.Ytpadpmkfhljiiaa
open Go.RowKit
theorem Try.infoW : (Try.prog.info? 24).map (fun i => (i.zero, i.size, i.bytes)) = some (some (.agg #[.int .u64 0, .int .u64 0, .int .u64 0, .int .u64 0]), 4, 32) := by kernel_rfl
/-- the cells of a list of words -/
def cellsW (a : Nat → Nat → Int) : Nat → List Value
  | 0 => []
  | k + 1 => cellsW a k ++ [.int .u64 (a k 0), .int .u64 (a k 1), .int .u64 (a k 2), .int .u64 (a k 3)]
theorem cellsW_len (a : Nat → Nat → Int) : ∀ k, (cellsW a k).length = k * 4
  | 0 => rfl
  | k + 1 => by rw [cellsW, List.length_append, cellsW_len a k]; simp; omega
theorem cellsW_at (a : Nat → Nat → Int) (i q : Nat) (hq : q < 4) : ∀ k, i < k → (cellsW a k)[i * 4 + q]? = some (.int .u64 (a i q))
  | 0, h => absurd h (by omega)
  | k + 1, h => by
    rw [cellsW]
    by_cases e : i = k
    · subst e
      rw [List.getElem?_append_right (by rw [cellsW_len]; omega), cellsW_len]
      obtain rfl | rfl | rfl | rfl : q = 0 ∨ q = 1 ∨ q = 2 ∨ q = 3 := by omega
      all_goals simp
    · rw [List.getElem?_append_left (by rw [cellsW_len]; omega)]
      exact cellsW_at a i q hq k (by omega)
theorem WordsAt.own {W : World} {B n : Nat} {v : Value} {a : Nat → Nat → Int} (h : W.ownsRow B 24 4 v n (cellsW a n)) (hu : ∀ i q, U64 (a i q)) (hn : n ≤ 1048576) : WordsAt W v n a := by
  have h' := h
  obtain ⟨_, ⟨rfl, rfl⟩ | ⟨g, c, cur, rfl, hb, hh, _⟩⟩ := h'
  · exact ⟨hn, hu, none, 0, rfl, fun e => absurd rfl e⟩
  · refine ⟨hn, hu, _, c, rfl, fun _ => ⟨g, 0, rfl, fun i hi q hq => ?_⟩⟩
    rw [Nat.zero_add, h.cellAt (i * 4 + q) (by omega), cellsW_at a i q hq n hi]
/-- the list turned round -/
def turnA (a : Nat → Nat → Int) (n i q : Nat) : Int := a (n - 1 - i) q
theorem wsum_front (a : Nat → Nat → Int) : ∀ k, wsum a (k + 1) = V (a 0 0) (a 0 1) (a 0 2) (a 0 3) + wsum (fun i => a (i + 1)) k
  | 0 => by simp [wsum]
  | k + 1 => by
    have := wsum_front a k
    rw [wsum, this, wsum]; omega
theorem wsum_ext {a b : Nat → Nat → Int} : ∀ k, (∀ i, i < k → a i = b i) → wsum a k = wsum b k
  | 0, _ => rfl
  | k + 1, h => by rw [wsum, wsum, wsum_ext k (fun i hi => h i (by omega)), h k (by omega)]
theorem wsum_turn (a : Nat → Nat → Int) : ∀ n, wsum (turnA a n) n = wsum a n
  | 0 => rfl
  | n + 1 => by
    rw [wsum_front]
    have e : wsum (fun i => turnA a (n + 1) (i + 1)) n = wsum (turnA a n) n := wsum_ext n fun i hi => by
      funext q; unfold turnA; congr 1; omega
    rw [e, wsum_turn a n, wsum]
    show V (a (n + 1 - 1 - 0) 0) (a (n + 1 - 1 - 0) 1) (a (n + 1 - 1 - 0) 2) (a (n + 1 - 1 - 0) 3) + _ = _
    rw [show n + 1 - 1 - 0 = n by omega]; omega
theorem turn_step {W0 wr w1 : World} {v v' : Value} {o : Obj} {a : Nat → Nat → Int} {k : Nat} {x0 x1 x2 x3 : Int} (hx : x0 = a k 0 ∧ x1 = a k 1 ∧ x2 = a k 2 ∧ x3 = a k 3) (hown : wr.ownsRow W0.heap.size 24 4 v k (cellsW a k)) (hB : Below W0.heap.size W0 wr)
    (hown' : w1.ownsRow W0.heap.size 24 4 v' (k + 1) (cellsW a k ++ [.int .u64 x0, .int .u64 x1, .int .u64 x2, .int .u64 x3])) (hg : (wr.alloc o).grownBy w1 v.ownBlock) :
    w1.ownsRow W0.heap.size 24 4 v' (k + 1) (cellsW a (k + 1)) ∧ Below W0.heap.size W0 w1 := by
  obtain ⟨rfl, rfl, rfl, rfl⟩ := hx
  exact ⟨hown', Below.grown (hB.alloc hB.size o) hg (by have := hB.size; simp; omega) (fun q h => (hown.lt q h).1)⟩
/-- where the sum on the way wraps -/
theorem wraps_step {S A x y : Int} (h0 : 0 ≤ S) (h1 : S < MM) (hA : 0 ≤ A ∧ A < MM) (hx : x % MM = S % MM) (hy : y % MM = (S + A) % MM) : decide (y % MM < x % MM) = decide (MM ≤ S + A) := by
  rw [hx, hy, Int.emod_eq_of_lt h0 h1]
  by_cases h : MM ≤ S + A
  · have e : (S + A) % MM = S + A - MM := by rw [← Int.sub_emod_right, Int.emod_eq_of_lt (by omega) (by omega)]
    rw [e, decide_eq_true h, decide_eq_true (by omega)]
  · rw [Int.emod_eq_of_lt (by omega) (by omega), decide_eq_false h, decide_eq_false (by omega)]
/-- four cells at a place -/
def Four (W : World) (g o : Nat) (x0 x1 x2 x3 : Int) : Prop := W.cell? ⟨g, o, none⟩ = some (.int .u64 x0) ∧ W.cell? ⟨g, o + 1, none⟩ = some (.int .u64 x1) ∧ W.cell? ⟨g, o + 2, none⟩ = some (.int .u64 x2) ∧ W.cell? ⟨g, o + 3, none⟩ = some (.int .u64 x3)
theorem Four.lt {W : World} {g o : Nat} {x0 x1 x2 x3 : Int} (h : Four W g o x0 x1 x2 x3) : g < W.heap.size := World.block_lt_of_cell? W _ h.1
theorem Four.below {W W' : World} {B g o : Nat} {x0 x1 x2 x3 : Int} (h : Four W g o x0 x1 x2 x3) (k : Below B W W') (hb : g < B) : Four W' g o x0 x1 x2 x3 :=
  ⟨(k.cell (p := ⟨g, o, none⟩) hb).trans h.1, (k.cell (p := ⟨g, o + 1, none⟩) hb).trans h.2.1, (k.cell (p := ⟨g, o + 2, none⟩) hb).trans h.2.2.1, (k.cell (p := ⟨g, o + 3, none⟩) hb).trans h.2.2.2⟩
theorem Four.alloc {W : World} {g o : Nat} {x0 x1 x2 x3 : Int} (h : Four W g o x0 x1 x2 x3) (ob : Obj) : Four (W.alloc ob) g o x0 x1 x2 x3 := h.below ((Below.refl _ _).alloc (Nat.le_refl _) _) h.lt
theorem WordsAt.four {W : World} {v : Value} {n : Nat} {a : Nat → Nat → Int} (h : WordsAt W v n a) (k : Nat) (hk : k < n) : ∃ g o cap, v = .slice (some ⟨g, o, none⟩) n cap ∧ Four W g (o + k * 4) (a k 0) (a k 1) (a k 2) (a k 3) := by
  obtain ⟨_, _, ad, cap, rfl, hc⟩ := h
  obtain ⟨g, o, rfl, hcc⟩ := hc (by omega)
  have h0 := hcc k hk 0 (by omega)
  rw [Nat.add_zero] at h0
  exact ⟨g, o, cap, rfl, h0, hcc k hk 1 (by omega), hcc k hk 2 (by omega), hcc k hk 3 (by omega)⟩
end Go.Proofs.Ytpadpmkfhljiiaa
