/- Numbers of many parts of 64 bits, and what a long division reckons: no condition, no Go text. -/
import Derived.Test.YtpadpmkfhljiiaaXm
namespace Go.Proofs.Ytpadpmkfhljiiaa
theorem Bd_pos : 0 < Bd := by unfold Bd; omega
theorem Bp (n : Nat) : (0 : Int) < Bd ^ n := Int.pow_pos Bd_pos
/-- the number of the first n parts -/
def nv (r : Nat → Int) : Nat → Int
  | 0 => 0
  | n + 1 => nv r n + r n * Bd ^ n
/-- the parts from k on -/
def sh (r : Nat → Int) (k : Nat) (i : Nat) : Int := r (k + i)
theorem nv_range {r : Nat → Int} (h : ∀ i, U64 (r i)) : ∀ n, 0 ≤ nv r n ∧ nv r n < Bd ^ n
  | 0 => by simp [nv]
  | n + 1 => by
    obtain ⟨h1, h2⟩ := nv_range h n
    have h3 := Bp n
    have h4 : (r n + 1) * Bd ^ n ≤ Bd * Bd ^ n := Int.mul_le_mul_of_nonneg_right (h n).2 (Int.le_of_lt h3)
    have h5 : 0 ≤ r n * Bd ^ n := Int.mul_nonneg (h n).1 (Int.le_of_lt h3)
    rw [Int.add_mul, Int.one_mul] at h4
    rw [nv, Int.pow_succ, Int.mul_comm (Bd ^ n) Bd]; omega
theorem nv_ext {r s : Nat → Int} : ∀ n, (∀ i, i < n → r i = s i) → nv r n = nv s n
  | 0, _ => rfl
  | n + 1, h => by rw [nv, nv, nv_ext n (fun i hi => h i (by omega)), h n (by omega)]
theorem nv_split (r : Nat → Int) (a : Nat) : ∀ k, nv r (a + k) = nv r a + Bd ^ a * nv (sh r a) k
  | 0 => by simp [nv]
  | k + 1 => by
    rw [← Nat.add_assoc, nv, nv_split r a k, nv, Int.mul_add, Int.pow_add]
    show _ = _ + (_ + Bd ^ a * (r (a + k) * Bd ^ k))
    rw [Int.mul_left_comm (Bd ^ a)]; omega
theorem nv_zero {r : Nat → Int} : ∀ n, (∀ i, i < n → r i = 0) → nv r n = 0
  | 0, _ => rfl
  | n + 1, h => by rw [nv, nv_zero n (fun i hi => h i (by omega)), h n (by omega)]; simp
theorem nv_more {r : Nat → Int} (n m : Nat) (h : n ≤ m) (hz : ∀ i, n ≤ i → i < m → r i = 0) : nv r m = nv r n := by
  obtain ⟨k, rfl⟩ := Nat.exists_eq_add_of_le h
  have hz' : nv (sh r n) k = 0 := nv_zero k (fun i hi => hz _ (by omega) (by omega))
  rw [nv_split, hz']; simp
theorem nv_set (q : Nat → Int) (k : Nat) (d : Int) : ∀ n, k < n → q k = 0 → nv (fun i => if i = k then d else q i) n = nv q n + d * Bd ^ k
  | 0, h, _ => absurd h (by omega)
  | n + 1, h, h0 => by
    by_cases e : k = n
    · subst e
      have hx : nv (fun i => if i = k then d else q i) k = nv q k := nv_ext k (fun i hi => if_neg (by omega))
      rw [nv, nv, hx, h0]; simp
    · rw [nv, nv, nv_set q k d n (by omega) h0]
      simp only [if_neg (fun h' : n = k => e h'.symm)]; omega
theorem nv4 (a0 a1 a2 a3 : Int) : nv (limb a0 a1 a2 a3) 4 = V a0 a1 a2 a3 := by
  simp [nv, limb, V, Bd]; omega
theorem sh_u64 {r : Nat → Int} (h : ∀ i, U64 (r i)) (k : Nat) : ∀ i, U64 (sh r k i) := fun i => h (k + i)
/-- what is below a power has no parts from there on -/
theorem nv_top {r : Nat → Int} (h : ∀ i, U64 (r i)) (a k : Nat) (hl : nv r (a + k) < Bd ^ a) : nv (sh r a) k = 0 := by
  have h1 := (nv_range (sh_u64 h a) k).1
  have h2 := (nv_range h a).1
  rw [nv_split] at hl
  by_cases e : nv (sh r a) k = 0
  · exact e
  · have h3 : Bd ^ a * 1 ≤ Bd ^ a * nv (sh r a) k := Int.mul_le_mul_of_nonneg_left (by omega) (Int.le_of_lt (Bp a))
    omega
/-- a column of the division: behind it stand n + 1 parts, the divisor's number is D -/
structure Col (r : Nat → Int) (n a : Nat) (D : Int) : Prop where
  u : ∀ i, U64 (r i)
  d0 : 0 < D
  dn : D < Bd ^ n
  lt : nv r 9 < D * Bd ^ (a + 1)
  fits : a + n < 9
theorem Col.high {r : Nat → Int} {n a : Nat} {D : Int} (c : Col r n a D) : nv (sh r (a + n + 1)) (8 - a - n) = 0 := by
  have hf := c.fits
  refine nv_top c.u _ _ ?_
  rw [show a + n + 1 + (8 - a - n) = 9 by omega]
  refine Int.lt_of_lt_of_le c.lt ?_
  have := Int.mul_le_mul_of_nonneg_right (Int.le_of_lt c.dn) (Int.le_of_lt (Bp (a + 1)))
  rw [← Int.pow_add] at this
  rwa [show a + n + 1 = n + (a + 1) by omega]
theorem nv_three (r : Nat → Int) (n a : Nat) (h : a + n < 9) (hz : nv (sh r (a + n + 1)) (8 - a - n) = 0) : nv r 9 = nv r a + Bd ^ a * nv (sh r a) (n + 1) := by
  have h1 := nv_split r (a + n + 1) (8 - a - n)
  rw [show a + n + 1 + (8 - a - n) = 9 by omega, hz] at h1
  rw [h1, show a + n + 1 = a + (n + 1) by omega, nv_split]; simp
theorem Col.whole {r : Nat → Int} {n a : Nat} {D : Int} (c : Col r n a D) : nv r 9 = nv r a + Bd ^ a * nv (sh r a) (n + 1) := nv_three r n a c.fits c.high
theorem Col.below {r : Nat → Int} {n a : Nat} {D : Int} (c : Col r n a D) : 0 ≤ nv (sh r a) (n + 1) ∧ nv (sh r a) (n + 1) < D * Bd := by
  refine ⟨(nv_range (sh_u64 c.u a) _).1, ?_⟩
  have h1 := c.whole
  have h2 := c.lt
  have h3 := (nv_range c.u a).1
  rw [h1, Int.pow_succ, Int.mul_comm (Bd ^ a) Bd, ← Int.mul_assoc, Int.mul_comm (D * Bd) (Bd ^ a)] at h2
  exact Int.lt_of_mul_lt_mul_left (show Bd ^ a * nv (sh r a) (n + 1) < Bd ^ a * (D * Bd) by omega) (Int.le_of_lt (Bp a))
theorem Col.digit {r : Nat → Int} {n a : Nat} {D : Int} (c : Col r n a D) : 0 ≤ nv (sh r a) (n + 1) / D ∧ nv (sh r a) (n + 1) / D < Bd := by
  have h := c.below
  exact ⟨Int.ediv_nonneg h.1 (Int.le_of_lt c.d0), Int.ediv_lt_of_lt_mul c.d0 (by rw [Int.mul_comm]; exact h.2)⟩
/-- the guess: of the highest two parts by the divisor's highest -/
theorem Col.guess {r d : Nat → Int} {m a : Nat} {D : Int} (c : Col r (m + 1) a D) (hd : ∀ i, U64 (d i)) (hD : D = nv d (m + 1)) : nv (sh r a) (m + 1 + 1) / D * d m ≤ r (a + (m + 1)) * Bd + r (a + m) := by
  have h0 := c.digit.1
  have h1 : nv (sh r a) (m + 1 + 1) / D * D ≤ nv (sh r a) (m + 1 + 1) := Int.ediv_mul_le _ (by have := c.d0; omega)
  have h2 : d m * Bd ^ m ≤ D := by rw [hD, nv]; have := (nv_range hd m).1; omega
  have h3 := (nv_range (sh_u64 c.u a) m).2
  have h4 : nv (sh r a) (m + 1 + 1) = nv (sh r a) m + (r (a + m) + r (a + (m + 1)) * Bd) * Bd ^ m := by
    rw [nv, nv, Int.pow_succ, Int.add_mul, Int.mul_comm (Bd ^ m) Bd, ← Int.mul_assoc]
    show _ + r (a + m) * _ + r (a + (m + 1)) * _ * _ = _
    omega
  generalize nv (sh r a) (m + 1 + 1) / D = k at h0 h1
  have h5 : k * (d m * Bd ^ m) ≤ k * D := Int.mul_le_mul_of_nonneg_left h2 h0
  rw [h4] at h1
  have h6 : Bd ^ m * (k * d m) < Bd ^ m * (r (a + (m + 1)) * Bd + r (a + m) + 1) := by
    rw [Int.mul_add, Int.mul_one, Int.mul_comm (Bd ^ m) (k * d m), Int.mul_assoc, Int.mul_comm (Bd ^ m), Int.add_comm (r (a + (m + 1)) * Bd)]; omega
  have h7 := Int.lt_of_mul_lt_mul_left h6 (Int.le_of_lt (Bp m))
  omega
/-- what is taken off, and what is left: so long as it is there -/
structure Off (r d : Nat → Int) (n a : Nat) (k : Int) (s : Nat → Int) (b : Bool) : Prop where
  u : ∀ i, U64 (s i)
  same : ∀ i, i < a ∨ a + n < i → s i = r i
  yes : b = true → nv (sh r a) (n + 1) = nv (sh s a) (n + 1) + k * nv d n
  no : b = false → nv (sh r a) (n + 1) < k * nv d n
theorem Off.stop {r d s : Nat → Int} {n a : Nat} {k D : Int} (h : Off r d n a k s true) (c : Col r n a D) (hD : D = nv d n) (hk : nv (sh r a) (n + 1) / D ≤ k) : k = nv (sh r a) (n + 1) / D := by
  have h1 := h.yes rfl
  have h2 := (nv_range (sh_u64 h.u a) (n + 1)).1
  rw [← hD] at h1
  have : k ≤ nv (sh r a) (n + 1) / D := Int.le_ediv_of_mul_le c.d0 (by omega)
  omega
theorem Off.down {r d s : Nat → Int} {n a : Nat} {k D : Int} (h : Off r d n a k s false) (c : Col r n a D) (hD : D = nv d n) : nv (sh r a) (n + 1) / D ≤ k - 1 := by
  have h1 := h.no rfl
  rw [← hD] at h1
  have := Int.ediv_lt_of_lt_mul c.d0 h1
  omega
theorem Off.left {r d s : Nat → Int} {n a : Nat} {k D : Int} (h : Off r d n a k s true) (c : Col r n a D) (hD : D = nv d n) (hk : k = nv (sh r a) (n + 1) / D) : nv r 9 = nv s 9 + k * (D * Bd ^ a) ∧ nv s 9 < D * Bd ^ a := by
  have h1 := h.yes rfl
  have hf := c.fits
  have e1 := c.whole
  have hz : nv (sh s (a + n + 1)) (8 - a - n) = 0 := by
    rw [← c.high]; exact nv_ext _ (fun i _ => h.same _ (Or.inr (by omega)))
  have e2 := nv_three s n a hf hz
  have e3 : nv s a = nv r a := nv_ext a (fun i hi => h.same _ (Or.inl hi))
  rw [← hD] at h1
  have h2 : nv (sh s a) (n + 1) = nv (sh r a) (n + 1) % D := by
    have := Int.mul_ediv_add_emod (nv (sh r a) (n + 1)) D
    rw [← hk, Int.mul_comm D k] at this
    omega
  have h3 : nv (sh s a) (n + 1) + 1 ≤ D := by have := Int.emod_lt_of_pos (nv (sh r a) (n + 1)) c.d0; omega
  have h4 := (nv_range c.u a).2
  have h5 := Int.mul_le_mul_of_nonneg_left h3 (Int.le_of_lt (Bp a))
  rw [Int.mul_add, Int.mul_one] at h5
  refine ⟨?_, ?_⟩
  · rw [e1, e2, e3, h1, Int.mul_add, ← Int.mul_assoc k D, Int.mul_comm (k * D) (Bd ^ a)]; omega
  · rw [e2, e3, Int.mul_comm D]; omega
theorem Col.none {r : Nat → Int} {n a : Nat} {D : Int} (c : Col r n a D) (hk : nv (sh r a) (n + 1) / D = 0) : nv r 9 < D * Bd ^ a := by
  have e1 := c.whole
  have h2 : nv (sh r a) (n + 1) + 1 ≤ D := by
    have h3 := Int.mul_ediv_add_emod (nv (sh r a) (n + 1)) D
    have := Int.emod_lt_of_pos (nv (sh r a) (n + 1)) c.d0
    rw [hk, Int.mul_zero] at h3; omega
  have h4 := (nv_range c.u a).2
  have h5 := Int.mul_le_mul_of_nonneg_left h2 (Int.le_of_lt (Bp a))
  rw [Int.mul_add, Int.mul_one] at h5
  rw [e1, Int.mul_comm D]; omega
/-- one part of taking off -/
theorem off_step {r0 r d : Nat → Int} {a i : Nat} {k c b c' b' p s : Int} (h : nv (sh r0 a) i + (b + c) * Bd ^ i = nv (sh r a) i + k * nv d i) (e1 : d i * k + c = c' * Bd + p) (e2 : r0 (a + i) - p - b = s - Bd * b') :
    nv (sh r0 a) (i + 1) + (b' + c') * Bd ^ (i + 1) = nv (sh (fun j => if j = a + i then s else r j) a) (i + 1) + k * nv d (i + 1) := by
  have hx : nv (sh (fun j => if j = a + i then s else r j) a) i = nv (sh r a) i := nv_ext i (fun j hj => by simp only [sh]; rw [if_neg (by omega)])
  have hy : sh (fun j => if j = a + i then s else r j) a i = s := by simp [sh]
  rw [nv, nv, nv, hx, hy, Int.mul_add, ← Int.mul_assoc k, Int.pow_succ]
  show _ + r0 (a + i) * _ + _ = _
  have e3 : r0 (a + i) * Bd ^ i + (b' + c') * (Bd ^ i * Bd) = (s + k * d i + (b + c)) * Bd ^ i := by
    rw [Int.mul_comm (Bd ^ i) Bd, ← Int.mul_assoc, ← Int.add_mul]
    congr 1
    rw [Int.add_mul, Int.mul_comm k (d i), Int.mul_comm b' Bd]
    omega
  have e4 : (s + k * d i + (b + c)) * Bd ^ i = s * Bd ^ i + k * d i * Bd ^ i + (b + c) * Bd ^ i := by rw [Int.add_mul, Int.add_mul]
  rw [e4] at e3
  omega
theorem off_end {r0 r d : Nat → Int} {a n : Nat} {k c b b' s : Int} (h : nv (sh r0 a) n + (b + c) * Bd ^ n = nv (sh r a) n + k * nv d n) (e2 : r0 (a + n) - c - b = s - Bd * b') :
    nv (sh r0 a) (n + 1) + b' * Bd ^ (n + 1) = nv (sh (fun j => if j = a + n then s else r j) a) (n + 1) + k * nv d n := by
  have hx : nv (sh (fun j => if j = a + n then s else r j) a) n = nv (sh r a) n := nv_ext n (fun j hj => by simp only [sh]; rw [if_neg (by omega)])
  have hy : sh (fun j => if j = a + n then s else r j) a n = s := by simp [sh]
  rw [nv, nv, hx, hy, Int.pow_succ]
  show _ + r0 (a + n) * _ + _ = _
  have e3 : r0 (a + n) * Bd ^ n + b' * (Bd ^ n * Bd) = (s + (b + c)) * Bd ^ n := by
    rw [Int.mul_comm (Bd ^ n) Bd, ← Int.mul_assoc, ← Int.add_mul]
    congr 1
    rw [Int.mul_comm b' Bd]; omega
  have e4 : (s + (b + c)) * Bd ^ n = s * Bd ^ n + (b + c) * Bd ^ n := by rw [Int.add_mul]
  rw [e4] at e3
  omega
theorem Off.of {r0 s d : Nat → Int} {a n : Nat} {k b : Int} (hu : ∀ i, U64 (s i)) (hs : ∀ i, i < a ∨ a + n < i → s i = r0 i) (h : nv (sh r0 a) (n + 1) + b * Bd ^ (n + 1) = nv (sh s a) (n + 1) + k * nv d n) (hb0 : 0 ≤ b) (hb1 : b ≤ 1) : Off r0 d n a k s (b == 0) := by
  have h1 := nv_range (sh_u64 hu a) (n + 1)
  refine ⟨hu, hs, fun e => ?_, fun e => ?_⟩
  · have : b = 0 := by simpa using e
    rw [this, Int.zero_mul] at h; omega
  · have : b = 1 := by have : ¬ b = 0 := by simpa using e
                       omega
    rw [this, Int.one_mul] at h; omega
/-- the start of the division -/
theorem div_start {u v : Nat → Int} {n m k : Nat} {P : Int} (hu : ∀ i, U64 (u i)) (hv : ∀ i, U64 (v i)) (hP : 0 < P) (hn : v n ≠ 0) (hm : m ≤ 8) (hz : ∀ i, m ≤ i → i < 8 → u i = 0) (hk : m ≤ n + k) : nv u 8 * P < nv v (n + 1) * P * Bd ^ k := by
  have h1 : nv u 8 < Bd ^ m := by rw [nv_more m 8 hm hz]; exact (nv_range hu m).2
  have h2 : Bd ^ n ≤ nv v (n + 1) := by
    rw [nv]
    have h3 := (nv_range hv n).1
    have h4 := Int.mul_le_mul_of_nonneg_right (show 1 ≤ v n by have := (hv n).1; omega) (Int.le_of_lt (Bp n))
    rw [Int.one_mul] at h4; omega
  have h5 : Bd ^ m ≤ Bd ^ n * Bd ^ k := by
    rw [← Int.pow_add]
    obtain ⟨j, hj⟩ := Nat.exists_eq_add_of_le hk
    rw [hj, Int.pow_add]
    have := Int.mul_le_mul_of_nonneg_left (show 1 ≤ Bd ^ j by have := Bp j; omega) (Int.le_of_lt (Bp m))
    omega
  have h6 := Int.mul_le_mul_of_nonneg_right h2 (Int.le_of_lt (Bp k))
  have h7 := Int.mul_lt_mul_of_pos_right (show nv u 8 < nv v (n + 1) * Bd ^ k by omega) hP
  rw [Int.mul_assoc, Int.mul_comm P, ← Int.mul_assoc]; exact h7
/-- the end of the division -/
theorem div_end {U v P Q T : Int} (hP : 0 < P) (hv : 0 < v) (h : U * P = Q * (v * P) + T) (h0 : 0 ≤ T) (hT : T < v * P) : Q = U / v ∧ T = (U % v) * P := by
  have h1 : T = (U - Q * v) * P := by rw [Int.sub_mul, Int.mul_assoc]; omega
  have h2 : 0 ≤ U - Q * v := by
    by_cases e : 0 ≤ U - Q * v
    · exact e
    · have := Int.mul_lt_mul_of_pos_right (show U - Q * v < 0 by omega) hP
      omega
  have h3 : U - Q * v < v := Int.lt_of_mul_lt_mul_right (by rw [← h1]; exact hT) (Int.le_of_lt hP)
  have h4 : U % v = U - Q * v := by
    have e : U = (U - Q * v) + v * Q := by rw [Int.mul_comm v Q]; omega
    conv => lhs; rw [e]
    rw [Int.add_mul_emod_self_left, Int.emod_eq_of_lt h2 h3]
  refine ⟨?_, by rw [h4]; exact h1⟩
  have h5 := Int.mul_ediv_add_emod U v
  rw [h4] at h5
  have h6 : v * (U / v) = v * Q := by rw [Int.mul_comm v Q]; omega
  exact (Int.eq_of_mul_eq_mul_left (by omega) h6).symm
end Go.Proofs.Ytpadpmkfhljiiaa
