/- The document's numbers: rows of digits of base 256. -/
import Derived.Test.YtbjijbgjnammhaaDoorWa
import Derived.Test.YtbjijbgjnammhaaDoorXm
import Derived.OwnWalk
import Derived.Laws.AppendOwnNone
import Derived.Laws.OwnMore
import Derived.Deep.CutRange
import Derived.Deep.DeepCutAuto
namespace Go.Proofs.YtbjijbgjnammhaaDoor.Wds
open Go.RowKit
/-- the number of the first n digits -/
def dsum (d : Nat → Nat) : Nat → Nat
  | 0 => 0
  | n + 1 => dsum d n + d n * 256 ^ n
theorem dsum_lt {d : Nat → Nat} (h : ∀ i, d i < 256) : ∀ n, dsum d n < 256 ^ n
  | 0 => by simp [dsum]
  | n + 1 => by
    have h1 := dsum_lt h n
    have h2 : (d n + 1) * 256 ^ n ≤ 256 * 256 ^ n := Nat.mul_le_mul_right _ (h n)
    rw [Nat.add_mul, Nat.one_mul] at h2
    rw [dsum, Nat.pow_succ, Nat.mul_comm (256 ^ n) 256]; omega
theorem dsum_ext {d e : Nat → Nat} : ∀ n, (∀ i, i < n → d i = e i) → dsum d n = dsum e n
  | 0, _ => rfl
  | n + 1, h => by rw [dsum, dsum, dsum_ext n (fun i hi => h i (by omega)), h n (by omega)]
theorem dsum_more {d : Nat → Nat} {n : Nat} (h : ∀ i, n ≤ i → d i = 0) : ∀ m, n ≤ m → dsum d m = dsum d n
  | 0, hm => by rw [show n = 0 by omega]
  | m + 1, hm => by
    by_cases e : n = m + 1
    · rw [e]
    · rw [dsum, h m (by omega), Nat.zero_mul, Nat.add_zero, dsum_more h m (by omega)]
theorem dsum_zero {d : Nat → Nat} : ∀ n, (∀ i, i < n → d i = 0) → dsum d n = 0
  | 0, _ => rfl
  | n + 1, h => by rw [dsum, dsum_zero n (fun i hi => h i (by omega)), h n (by omega)]; simp
/-- above j the digits agree -/
theorem dsum_agree {d e : Nat → Nat} (j : Nat) : ∀ n, j ≤ n → (∀ i, j ≤ i → i < n → d i = e i) → dsum d n + dsum e j = dsum e n + dsum d j
  | 0, hn, _ => by obtain rfl : j = 0 := by omega
                   rfl
  | n + 1, hn, h => by
    by_cases q : j = n + 1
    · subst q; omega
    · have := dsum_agree j n (by omega) (fun i h1 h2 => h i h1 (by omega))
      rw [dsum, dsum, h n (by omega) (by omega)]; omega
theorem dsum_less {d e : Nat → Nat} (hd : ∀ i, d i < 256) (j n : Nat) (hj : j < n) (hlt : d j < e j) (h : ∀ i, j + 1 ≤ i → i < n → d i = e i) : dsum d n < dsum e n := by
  have h1 := dsum_agree (j + 1) n (by omega) h
  have h2 := dsum_lt hd j
  have h3 : (d j + 1) * 256 ^ j ≤ e j * 256 ^ j := Nat.mul_le_mul_right _ hlt
  rw [Nat.add_mul, Nat.one_mul] at h3
  have h4 : dsum d (j + 1) < dsum e (j + 1) := by rw [dsum, dsum]; omega
  omega
/-- the digits of a number -/
def dig (X : Nat) (i : Nat) : Nat := if i < 32 then X / 256 ^ i % 256 else 0
theorem dig_lt (X i : Nat) : dig X i < 256 := by unfold dig; split <;> omega
theorem dig_sum (X : Nat) : ∀ n, n ≤ 32 → dsum (dig X) n = X % 256 ^ n
  | 0, _ => by simp [dsum, Nat.mod_one]
  | n + 1, h => by
    rw [dsum, dig_sum X n (by omega), dig, if_pos (by omega), Nat.pow_succ, Nat.mod_mul, Nat.mul_comm (256 ^ n)]
/-- the value is a row of these n digits -/
def RowAt (W : World) (v : Value) (n : Nat) (d : Nat → Nat) : Prop := (∀ i, n ≤ i → d i = 0) ∧ (∀ i, d i < 256) ∧ n ≤ 1073741824 ∧ ∃ ad cap, v = .slice ad n cap ∧ (n ≠ 0 → ∃ g o, ad = some ⟨g, o, none⟩ ∧ ∀ i, i < n → W.cell? ⟨g, o + i, none⟩ = some (.int .i64 (d i : Int)))
theorem RowAt.below {W W' : World} {v : Value} {n : Nat} {d : Nat → Nat} (h : RowAt W v n d) (k : Below W.heap.size W W') : RowAt W' v n d := by
  obtain ⟨h1, h2, h3, ad, cap, e, hc⟩ := h
  refine ⟨h1, h2, h3, ad, cap, e, fun hn => ?_⟩
  obtain ⟨g, o, e1, hc⟩ := hc hn
  exact ⟨g, o, e1, fun i hi => (k.cell (p := ⟨g, o + i, none⟩) (World.block_lt_of_cell? W _ (hc i hi))).trans (hc i hi)⟩
def intsD (d : Nat → Nat) (n : Nat) : List Value := (List.range n).map fun i => .int .i64 (d i : Int)
theorem intsD_snoc (d : Nat → Nat) (n : Nat) : intsD d (n + 1) = intsD d n ++ [.int .i64 (d n : Int)] := by simp [intsD, List.range_succ]
theorem intsD_at (d : Nat → Nat) (n i : Nat) (h : i < n) : (intsD d n)[i]? = some (.int .i64 (d i : Int)) := by simp [intsD, h]
theorem RowAt.own {W : World} {B n : Nat} {v : Value} {d : Nat → Nat} (h : W.ownsRow B 3 1 v n (intsD d n)) (hd : ∀ i, d i < 256) (hz : ∀ i, n ≤ i → d i = 0) (hn : n ≤ 1073741824) : RowAt W v n d := by
  have h' := h
  obtain ⟨_, ⟨rfl, rfl⟩ | ⟨g, c, cur, rfl, hb, hh, _⟩⟩ := h'
  · exact ⟨hz, hd, hn, none, 0, rfl, fun e => absurd rfl e⟩
  · exact ⟨hz, hd, hn, _, c, rfl, fun _ => ⟨g, 0, rfl, fun i hi => by rw [Nat.zero_add, h.cellAt i (by omega), intsD_at d n i hi]⟩⟩
theorem Tryd.infoI : (Tryd.prog.info? 3).map (fun i => (i.zero, i.size, i.bytes)) = some (some (.int .i64 0), 1, 8) := by kernel_rfl
end Go.Proofs.YtbjijbgjnammhaaDoor.Wds
