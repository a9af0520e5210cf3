/- The document's 'Sum' of one piece. -/
import Derived.Test.YtbjijbgjnammhaaDoorVl
import Derived.Test.YtbjijbgjnammhaaDoorVj
namespace Go.Proofs.YtbjijbgjnammhaaDoor
open Go.RowKit
/-- a byte's bits, laid into a state one by one -/
def lyF (f : KSt) (p x : Nat) : Nat → Nat → Nat
  | 0 => bs f
  | j + 1 => setD (lyF f p x j) (8 * p + j) ((lyF f p x j (8 * p + j) + x / 2 ^ j % 2) % 2)
theorem lyF_at (f : KSt) (p x : Nat) : ∀ j i, lyF f p x j i = if 8 * p ≤ i ∧ i < 8 * p + j then (bs f i + x / 2 ^ (i - 8 * p) % 2) % 2 else bs f i
  | 0, i => by rw [if_neg (by omega)]; rfl
  | j + 1, i => by
    rw [lyF, setD]
    by_cases h : i = 8 * p + j
    · rw [if_pos h, if_pos (by omega), lyF_at f p x j (8 * p + j), if_neg (by omega), h, show 8 * p + j - 8 * p = j by omega]
    · rw [if_neg h, lyF_at f p x j i]
      by_cases h2 : 8 * p ≤ i ∧ i < 8 * p + j
      · rw [if_pos h2, if_pos (by omega)]
      · rw [if_neg h2, if_neg (by omega)]
theorem lyF_le (f : KSt) (p x j i : Nat) : lyF f p x j i ≤ 1 := by
  rw [lyF_at]; split; omega; exact bs_le f i
theorem bit_nat (x i : Nat) : (x.testBit i).toNat = x / 2 ^ i % 2 := by
  rw [Nat.testBit_eq_decide_div_mod_eq]
  rcases Nat.mod_two_eq_zero_or_one (x / 2 ^ i) with h | h <;> simp [h]
theorem ly_all (f : KSt) (p x : Nat) (hx : x < 256) (i : Nat) : lyF f p x 8 i = bs (layF f p x) i := by
  rw [lyF_at]
  unfold bs layF
  by_cases hl : i / 64 = p / 8
  · rw [if_pos hl, BitVec.getLsbD_xor, xor_nat, BitVec.getLsbD_shiftLeft, BitVec.getLsbD_ofNat]
    have hz : i % 64 < 64 := Nat.mod_lt _ (by decide)
    by_cases h : 8 * p ≤ i ∧ i < 8 * p + 8
    · rw [if_pos h, decide_eq_true hz, decide_eq_false (show ¬ i % 64 < 8 * (p % 8) by omega), show i % 64 - 8 * (p % 8) = i - 8 * p by omega, decide_eq_true (show i - 8 * p < 64 by omega)]
      simp only [Bool.not_false, Bool.true_and]
      rw [bit_nat]
    · rw [if_neg h]
      have e0 : (decide (i % 64 < 64) && !decide (i % 64 < 8 * (p % 8)) && (decide (i % 64 - 8 * (p % 8) < 64) && x.testBit (i % 64 - 8 * (p % 8)))) = false := by
        by_cases h2 : i % 64 < 8 * (p % 8)
        · rw [decide_eq_true h2]; simp
        · have h3 : 8 ≤ i % 64 - 8 * (p % 8) := by omega
          have h4 : x.testBit (i % 64 - 8 * (p % 8)) = false := Nat.testBit_lt_two_pow (Nat.lt_of_lt_of_le hx (Nat.pow_le_pow_right (n := 2) (i := 8) (by decide) h3))
          rw [h4]; simp
      rw [e0]
      have b := bs_le f i
      unfold bs at b
      simp only [Bool.toNat_false, Nat.add_zero]
      omega
  · rw [if_neg hl, if_neg (by omega)]
theorem owns_seg {w : World} {B n : Nat} {v : Value} {l : List Nat} (h : w.ownsRow B 5 1 v n (bytesL l)) : Seg w v l ∧ n = l.length := by
  have hn : n = l.length := by have := h.1; rw [bytesL_len] at this; omega
  refine ⟨?_, hn⟩
  subst hn
  obtain ⟨_, ⟨rfl, e⟩ | ⟨g, c, cur, rfl, hb, hh, h1, h2, _⟩⟩ := id h
  · rw [← e]; exact ⟨none, 0, by rw [e], by omega, by decide, fun hne => absurd (List.length_eq_zero_iff.1 e) hne, fun _ => rfl⟩
  · refine ⟨some ⟨g, 0, none⟩, c, rfl, h1, h2, fun _ => ⟨g, 0, rfl, fun i hi => ?_⟩, fun e => by cases e⟩
    show w.cell? ⟨g, 0 + i, none⟩ = _
    rw [Nat.zero_add, h.cellAt i (by omega)]
    simp [bytesL, hi, List.getD_eq_getElem?_getD]
/-- the state behind the first i bytes -/
def abF (L : List Nat) (i : Nat) : KSt := (absL (zeroK, 0) (L.take i)).1
theorem abF_next (L : List Nat) (i : Nat) (hi : i < L.length) : abF L (i + 1) = if i % 136 = 135 then rndsF 24 (layF (abF L i) (i % 136) (L.getD i 0)) else layF (abF L i) (i % 136) (L.getD i 0) := by
  unfold abF
  rw [absL_take _ _ _ hi]
  have h2 : (absL (zeroK, 0) (L.take i)).2 = i % 136 := by rw [absL_snd _ _ (by decide), List.length_take]; simp; congr 1; omega
  unfold absF
  rw [h2]
  by_cases h : i % 136 = 135
  · rw [if_pos (by omega), if_pos h]
  · rw [if_neg (by omega), if_neg h]
theorem abF_end (l L : List Nat) (hL : L = l ++ padL (136 - l.length % 136)) (i : Nat) : hashF (abF L L.length) i = sumF l i := by
  have h2 : (absL (zeroK, 0) l).2 = l.length % 136 := by rw [absL_snd _ _ (by decide)]; simp
  have e : absL (zeroK, 0) L = (endF (absL (zeroK, 0) l).1 (absL (zeroK, 0) l).2, 0) := by
    have ha := abs_pad (absL (zeroK, 0) l).1 (absL (zeroK, 0) l).2 (absL_lt l (by decide))
    rw [hL]
    unfold absL at *
    rw [List.foldl_append, ← h2]; exact ha
  unfold abF sumF
  rw [List.take_length, e]
theorem hash_bits (f : KSt) (i j : Nat) (hj : j < 8) : bs f (8 * i + j) = (f (i / 8)).toNat / 2 ^ (8 * (i % 8)) % 256 / 2 ^ j % 2 := by
  rw [show 8 * i + j = 64 * (i / 8) + (8 * (i % 8) + j) by omega, lane_bit _ _ _ (by omega), Nat.pow_add, ← Nat.div_div_eq_div_mul]
  generalize (f (i / 8)).toNat / 2 ^ (8 * (i % 8)) = y
  have h : j = 0 ∨ j = 1 ∨ j = 2 ∨ j = 3 ∨ j = 4 ∨ j = 5 ∨ j = 6 ∨ j = 7 := by omega
  rcases h with rfl | rfl | rfl | rfl | rfl | rfl | rfl | rfl <;> simp only [Nat.reducePow, Nat.pow_zero] <;> omega
end Go.Proofs.YtbjijbgjnammhaaDoor
