/- Blocks of 136 bytes: laid byte by byte, or lane by lane; padding. -/
import Derived.Test.YteggikojfkmbkaaDoorKd
namespace Go.Proofs.YteggikojfkmbkaaDoor
open Go.RowKit
def lowN (l : List Nat) (o : Nat) : Nat → Nat
  | 0 => 0
  | m + 1 => lowN l o m + l.getD (o + m) 0 * 256 ^ m
theorem lowN_lt (l : List Nat) (hl : ∀ i, l.getD i 0 < 256) (o : Nat) : ∀ m, lowN l o m < 256 ^ m
  | 0 => by simp [lowN]
  | m + 1 => by
    have h1 := lowN_lt l hl o m
    have h2 := hl (o + m)
    rw [lowN, Nat.pow_succ]
    have : l.getD (o + m) 0 * 256 ^ m ≤ 255 * 256 ^ m := Nat.mul_le_mul_right _ (by omega)
    omega
theorem numN_low (l : List Nat) (o : Nat) : numN l o 8 = lowN l o 8 := by
  simp only [numN, lowN, Nat.sub_self, Nat.reduceSub, Nat.add_zero, Nat.reducePow]; omega
theorem xor_high (a x r : Nat) (ha : a < 2 ^ r) : a ^^^ (x * 2 ^ r) = a + x * 2 ^ r := by
  apply Nat.eq_of_testBit_eq
  intro j
  rw [Nat.testBit_xor, Nat.mul_comm x, Nat.add_comm, Nat.testBit_two_pow_mul_add _ ha, Nat.testBit_two_pow_mul]
  by_cases h : j < r
  · simp [h, show ¬ r ≤ j by omega]
  · have : a.testBit j = false := Nat.testBit_lt_two_pow (Nat.lt_of_lt_of_le ha (Nat.pow_le_pow_right (by omega) (by omega)))
    simp [h, show r ≤ j by omega, this]
theorem bv_high (a x r : Nat) (hr : r < 8) (ha : a < 256 ^ r) (hx : x < 256) : BitVec.ofNat 64 a ^^^ (BitVec.ofNat 64 x <<< (8 * r)) = BitVec.ofNat 64 (a + x * 256 ^ r) := by
  have e : (256 : Nat) ^ r = 2 ^ (8 * r) := by rw [Nat.pow_mul]
  rw [e] at ha ⊢
  have h8 : 2 ^ (8 * r) * 256 ≤ 2 ^ 64 := by
    rw [show (256 : Nat) = 2 ^ 8 from rfl, ← Nat.pow_add]; exact Nat.pow_le_pow_right (by omega) (by omega)
  have hxx : x * 2 ^ (8 * r) < 2 ^ 64 := by
    have : x * 2 ^ (8 * r) ≤ 255 * 2 ^ (8 * r) := Nat.mul_le_mul_right _ (by omega)
    have : 0 < 2 ^ (8 * r) := Nat.two_pow_pos _
    omega
  have h0 : 0 < 2 ^ (8 * r) := Nat.two_pow_pos _
  apply BitVec.eq_of_toNat_eq
  rw [BitVec.toNat_xor, BitVec.toNat_shiftLeft, BitVec.toNat_ofNat, BitVec.toNat_ofNat, BitVec.toNat_ofNat, Nat.shiftLeft_eq, Nat.mod_mul_mod, Nat.mod_eq_of_lt (show a < 2 ^ 64 by omega), Nat.mod_eq_of_lt hxx, xor_high _ _ _ ha, Nat.mod_eq_of_lt]
  have : (x + 1) * 2 ^ (8 * r) ≤ 256 * 2 ^ (8 * r) := Nat.mul_le_mul_right _ (by omega)
  rw [Nat.add_mul] at this
  omega
/-- the lanes behind the first p bytes of a block -/
def partF (f : KSt) (l : List Nat) (o p : Nat) : KSt := fun i => f i ^^^ BitVec.ofNat 64 (lowN l (o + 8 * i) (min 8 (p - 8 * i)))
theorem part_zero (f : KSt) (l : List Nat) (o : Nat) : partF f l o 0 = f := by
  funext i; simp [partF, lowN]
theorem part_step (f : KSt) (l : List Nat) (hl : ∀ i, l.getD i 0 < 256) (o p : Nat) : layF (partF f l o p) p (l.getD (o + p) 0) = partF f l o (p + 1) := by
  funext i
  simp only [layF, partF]
  by_cases h : i = p / 8
  · rw [if_pos h, BitVec.xor_assoc, show min 8 (p - 8 * i) = p % 8 by omega, show min 8 (p + 1 - 8 * i) = p % 8 + 1 by omega, bv_high _ _ _ (by omega) (lowN_lt l hl _ _) (hl _), lowN, show o + 8 * i + p % 8 = o + p by omega]
  · rw [if_neg h]
    by_cases h2 : i < p / 8
    · rw [show min 8 (p - 8 * i) = 8 by omega, show min 8 (p + 1 - 8 * i) = 8 by omega]
    · rw [show min 8 (p - 8 * i) = 0 by omega, show min 8 (p + 1 - 8 * i) = 0 by omega]
theorem part_all (f : KSt) (l : List Nat) (o : Nat) : partF f l o 136 = blockF f l o := by
  funext i
  simp only [partF, blockF, numN_low]
  by_cases h : i < 17
  · rw [if_pos h, show min 8 (136 - 8 * i) = 8 by omega]
  · rw [if_neg h, show min 8 (136 - 8 * i) = 0 by omega]; simp [lowN]
theorem getD_drop (l : List Nat) (o p : Nat) : (l.drop o).getD p 0 = l.getD (o + p) 0 := by simp [List.getD_eq_getElem?_getD]
theorem abs_part (f : KSt) (l : List Nat) (hl : ∀ i, l.getD i 0 < 256) (o : Nat) : ∀ p, p < 136 → o + p ≤ l.length → absL (f, 0) ((l.drop o).take p) = (partF f l o p, p)
  | 0, _, _ => by rw [List.take_zero, part_zero]; rfl
  | p + 1, h, hle => by
    rw [absL_take _ _ p (by rw [List.length_drop]; omega), abs_part f l hl o p (by omega) (by omega), getD_drop, absF, if_neg (by show ¬ p + 1 = 136; omega), part_step f l hl]
/-- a whole block -/
theorem abs_block (f : KSt) (l : List Nat) (hl : ∀ i, l.getD i 0 < 256) (o : Nat) (h : o + 136 ≤ l.length) : absL (f, 0) ((l.drop o).take 136) = (rndsF 24 (blockF f l o), 0) := by
  rw [show (136 : Nat) = 135 + 1 from rfl, absL_take _ _ 135 (by rw [List.length_drop]; omega), abs_part f l hl o 135 (by omega) (by omega), getD_drop, absF, if_pos rfl, part_step f l hl, ← part_all]
/-- the state behind the first j blocks -/
def stF (l : List Nat) : Nat → KSt
  | 0 => zeroK
  | j + 1 => rndsF 24 (blockF (stF l j) l (136 * j))
theorem abs_blocks (l : List Nat) (hl : ∀ i, l.getD i 0 < 256) : ∀ j, 136 * j ≤ l.length → absL (zeroK, 0) (l.take (136 * j)) = (stF l j, 0)
  | 0, _ => rfl
  | j + 1, h => by
    rw [show 136 * (j + 1) = 136 * j + 136 by omega, List.take_add, absL, List.foldl_append]
    have := abs_blocks l hl j (by omega)
    rw [absL] at this
    rw [this]
    exact abs_block (stF l j) l hl (136 * j) (by omega)
theorem lay_zero (f : KSt) (p : Nat) : layF f p 0 = f := by
  funext i; simp [layF]
theorem abs_zeros (f : KSt) : ∀ n p, p + n < 136 → absL (f, p) (List.replicate n 0) = (f, p + n)
  | 0, p, _ => rfl
  | n + 1, p, h => by
    rw [List.replicate_succ, absL, List.foldl_cons, absF, if_neg (by show ¬ p + 1 = 136; omega), lay_zero]
    have := abs_zeros f n (p + 1) (by omega)
    rw [absL] at this
    rw [this, show p + 1 + n = p + (n + 1) by omega]
/-- what comes behind the bytes -/
def padL (n : Nat) : List Nat := if n = 1 then [129] else 1 :: (List.replicate (n - 2) 0 ++ [128])
theorem abs_pad (f : KSt) (p : Nat) (hp : p < 136) : absL (f, p) (padL (136 - p)) = (endF f p, 0) := by
  by_cases h : p = 135
  · subst h
    have : layF f 135 129 = layF (layF f 135 1) 135 128 := by
      funext i
      simp only [layF]
      by_cases e : i = 135 / 8
      · rw [if_pos e, if_pos e, if_pos e, BitVec.xor_assoc]; congr 1
      · rw [if_neg e, if_neg e, if_neg e]
    show absF (f, 135) 129 = _
    rw [absF, if_pos rfl, this]; rfl
  · rw [padL, if_neg (by omega), absL, List.foldl_cons, absF, if_neg (by show ¬ p + 1 = 136; omega), List.foldl_append]
    have := abs_zeros (layF f p 1) (136 - p - 2) (p + 1) (by omega)
    rw [absL] at this
    rw [this, show p + 1 + (136 - p - 2) = 135 by omega]
    rfl
theorem absF_snd (s : KSt × Nat) (x : Nat) (h : s.2 < 136) : (absF s x).2 = (s.2 + 1) % 136 := by
  unfold absF; split
  · rename_i e; rw [e]
  · rw [Nat.mod_eq_of_lt (by omega)]
theorem absL_snd : ∀ (l : List Nat) (s : KSt × Nat), s.2 < 136 → (absL s l).2 = (s.2 + l.length) % 136
  | [], s, h => by rw [List.length_nil, Nat.add_zero, Nat.mod_eq_of_lt h]; rfl
  | x :: r, s, h => by
    show (absL (absF s x) r).2 = _
    rw [absL_snd r _ (absF_lt x h), absF_snd s x h, List.length_cons]; omega
/-- SUM IS WHAT THE BLOCKS OF THE PADDED BYTES MAKE -/
theorem folds (b : List Nat) (L : List Nat) (hL : L = b ++ padL (136 - b.length % 136)) (j : Nat) (hj : 136 * j = L.length) (hl : ∀ i, L.getD i 0 < 256) :
    stF L j = endF (absL (zeroK, 0) b).1 (absL (zeroK, 0) b).2 := by
  have h1 := abs_blocks L hl j (by omega)
  rw [hj, List.take_length] at h1
  have hp := absL_snd b (zeroK, 0) (by decide)
  have hlt := absL_lt b (s := (zeroK, 0)) (by decide)
  rw [hL, absL, List.foldl_append] at h1
  rw [show (0 : Nat) + b.length = b.length by omega] at hp
  have h2 := abs_pad (absL (zeroK, 0) b).1 (absL (zeroK, 0) b).2 hlt
  rw [show ((absL (zeroK, 0) b).1, (absL (zeroK, 0) b).2) = absL (zeroK, 0) b from rfl, hp] at h2
  rw [absL, absL] at h2
  rw [h2] at h1
  have := congrArg Prod.fst h1
  rw [← hL] at this
  rw [hp]
  exact this.symm
end Go.Proofs.YteggikojfkmbkaaDoor
