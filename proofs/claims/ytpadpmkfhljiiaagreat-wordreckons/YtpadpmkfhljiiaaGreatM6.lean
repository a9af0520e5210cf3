/- Numbers of many parts of 64 bits, and what a long division reckons: no condition, no Go text. -/
import Derived.Test.YtpadpmkfhljiiaaGreatM1
import Derived.Test.YtpadpmkfhljiiaaGreatM4
import Derived.Deep.MidRow
import Derived.Deep.CutRange
import Derived.Deep.DeepCutAuto
import Derived.Deep.QuietTactic
import Derived.BigQuiet
import Derived.Deep.RegionHeld3
namespace Go.Proofs.YtpadpmkfhljiiaaGreat
theorem Bd_pos : 0 < Bd := by unfold Bd; omega
theorem Bp (n : Nat) : (0 : Int) < Bd ^ n := Int.pow_pos Bd_pos
/-- the number of the first n parts -/
def nv (r : Nat → Int) : Nat → Int
  | 0 => 0
  | n + 1 => nv r n + r n * Bd ^ n
/-- the parts from k on -/
def sh (r : Nat → Int) (k : Nat) (i : Nat) : Int := r (k + i)
theorem nv_range {r : Nat → Int} (h : ∀ i, U64 (r i)) : ∀ n, 0 ≤ nv r n ∧ nv r n < Bd ^ n
  | 0 => by simp [nv]
  | n + 1 => by
    obtain ⟨h1, h2⟩ := nv_range h n
    have h3 := Bp n
    have h4 : (r n + 1) * Bd ^ n ≤ Bd * Bd ^ n := Int.mul_le_mul_of_nonneg_right (h n).2 (Int.le_of_lt h3)
    have h5 : 0 ≤ r n * Bd ^ n := Int.mul_nonneg (h n).1 (Int.le_of_lt h3)
    rw [Int.add_mul, Int.one_mul] at h4
    rw [nv, Int.pow_succ, Int.mul_comm (Bd ^ n) Bd]; omega
theorem nv_ext {r s : Nat → Int} : ∀ n, (∀ i, i < n → r i = s i) → nv r n = nv s n
  | 0, _ => rfl
  | n + 1, h => by rw [nv, nv, nv_ext n (fun i hi => h i (by omega)), h n (by omega)]
theorem nv_split (r : Nat → Int) (a : Nat) : ∀ k, nv r (a + k) = nv r a + Bd ^ a * nv (sh r a) k
  | 0 => by simp [nv]
  | k + 1 => by
    rw [← Nat.add_assoc, nv, nv_split r a k, nv, Int.mul_add, Int.pow_add]
    show _ = _ + (_ + Bd ^ a * (r (a + k) * Bd ^ k))
    rw [Int.mul_left_comm (Bd ^ a)]; omega
theorem nv_zero {r : Nat → Int} : ∀ n, (∀ i, i < n → r i = 0) → nv r n = 0
  | 0, _ => rfl
  | n + 1, h => by rw [nv, nv_zero n (fun i hi => h i (by omega)), h n (by omega)]; simp
theorem nv_more {r : Nat → Int} (n m : Nat) (h : n ≤ m) (hz : ∀ i, n ≤ i → i < m → r i = 0) : nv r m = nv r n := by
  obtain ⟨k, rfl⟩ := Nat.exists_eq_add_of_le h
  have hz' : nv (sh r n) k = 0 := nv_zero k (fun i hi => hz _ (by omega) (by omega))
  rw [nv_split, hz']; simp
theorem nv_set (q : Nat → Int) (k : Nat) (d : Int) : ∀ n, k < n → q k = 0 → nv (fun i => if i = k then d else q i) n = nv q n + d * Bd ^ k
  | 0, h, _ => absurd h (by omega)
  | n + 1, h, h0 => by
    by_cases e : k = n
    · subst e
      have hx : nv (fun i => if i = k then d else q i) k = nv q k := nv_ext k (fun i hi => if_neg (by omega))
      rw [nv, nv, hx, h0]; simp
    · rw [nv, nv, nv_set q k d n (by omega) h0]
      simp only [if_neg (fun h' : n = k => e h'.symm)]; omega
theorem nv4 (a0 a1 a2 a3 : Int) : nv (limb a0 a1 a2 a3) 4 = V a0 a1 a2 a3 := by
  simp [nv, limb, V, Bd]; omega
theorem sh_u64 {r : Nat → Int} (h : ∀ i, U64 (r i)) (k : Nat) : ∀ i, U64 (sh r k i) := fun i => h (k + i)
/-- what is below a power has no parts from there on -/
theorem nv_top {r : Nat → Int} (h : ∀ i, U64 (r i)) (a k : Nat) (hl : nv r (a + k) < Bd ^ a) : nv (sh r a) k = 0 := by
  have h1 := (nv_range (sh_u64 h a) k).1
  have h2 := (nv_range h a).1
  rw [nv_split] at hl
  by_cases e : nv (sh r a) k = 0
  · exact e
  · have h3 : Bd ^ a * 1 ≤ Bd ^ a * nv (sh r a) k := Int.mul_le_mul_of_nonneg_left (by omega) (Int.le_of_lt (Bp a))
    omega
/-- a column of the division: behind it stand n + 1 parts, the divisor's number is D -/
structure Col (r : Nat → Int) (n a : Nat) (D : Int) : Prop where
  u : ∀ i, U64 (r i)
  d0 : 0 < D
  dn : D < Bd ^ n
  lt : nv r 9 < D * Bd ^ (a + 1)
  fits : a + n < 9
theorem Col.high {r : Nat → Int} {n a : Nat} {D : Int} (c : Col r n a D) : nv (sh r (a + n + 1)) (8 - a - n) = 0 := by
  have hf := c.fits
  refine nv_top c.u _ _ ?_
  rw [show a + n + 1 + (8 - a - n) = 9 by omega]
  refine Int.lt_of_lt_of_le c.lt ?_
  have := Int.mul_le_mul_of_nonneg_right (Int.le_of_lt c.dn) (Int.le_of_lt (Bp (a + 1)))
  rw [← Int.pow_add] at this
  rwa [show a + n + 1 = n + (a + 1) by omega]
theorem nv_three (r : Nat → Int) (n a : Nat) (h : a + n < 9) (hz : nv (sh r (a + n + 1)) (8 - a - n) = 0) : nv r 9 = nv r a + Bd ^ a * nv (sh r a) (n + 1) := by
  have h1 := nv_split r (a + n + 1) (8 - a - n)
  rw [show a + n + 1 + (8 - a - n) = 9 by omega, hz] at h1
  rw [h1, show a + n + 1 = a + (n + 1) by omega, nv_split]; simp
theorem Col.whole {r : Nat → Int} {n a : Nat} {D : Int} (c : Col r n a D) : nv r 9 = nv r a + Bd ^ a * nv (sh r a) (n + 1) := nv_three r n a c.fits c.high
theorem Col.below {r : Nat → Int} {n a : Nat} {D : Int} (c : Col r n a D) : 0 ≤ nv (sh r a) (n + 1) ∧ nv (sh r a) (n + 1) < D * Bd := by
  refine ⟨(nv_range (sh_u64 c.u a) _).1, ?_⟩
  have h1 := c.whole
  have h2 := c.lt
  have h3 := (nv_range c.u a).1
  rw [h1, Int.pow_succ, Int.mul_comm (Bd ^ a) Bd, ← Int.mul_assoc, Int.mul_comm (D * Bd) (Bd ^ a)] at h2
  exact Int.lt_of_mul_lt_mul_left (show Bd ^ a * nv (sh r a) (n + 1) < Bd ^ a * (D * Bd) by omega) (Int.le_of_lt (Bp a))
theorem Col.digit {r : Nat → Int} {n a : Nat} {D : Int} (c : Col r n a D) : 0 ≤ nv (sh r a) (n + 1) / D ∧ nv (sh r a) (n + 1) / D < Bd := by
  have h := c.below
  exact ⟨Int.ediv_nonneg h.1 (Int.le_of_lt c.d0), Int.ediv_lt_of_lt_mul c.d0 (by rw [Int.mul_comm]; exact h.2)⟩
/-- the guess: of the highest two parts by the divisor's highest -/
theorem Col.guess {r d : Nat → Int} {m a : Nat} {D : Int} (c : Col r (m + 1) a D) (hd : ∀ i, U64 (d i)) (hD : D = nv d (m + 1)) : nv (sh r a) (m + 1 + 1) / D * d m ≤ r (a + (m + 1)) * Bd + r (a + m) := by
  have h0 := c.digit.1
  have h1 : nv (sh r a) (m + 1 + 1) / D * D ≤ nv (sh r a) (m + 1 + 1) := Int.ediv_mul_le _ (by have := c.d0; omega)
  have h2 : d m * Bd ^ m ≤ D := by rw [hD, nv]; have := (nv_range hd m).1; omega
  have h3 := (nv_range (sh_u64 c.u a) m).2
  have h4 : nv (sh r a) (m + 1 + 1) = nv (sh r a) m + (r (a + m) + r (a + (m + 1)) * Bd) * Bd ^ m := by
    rw [nv, nv, Int.pow_succ, Int.add_mul, Int.mul_comm (Bd ^ m) Bd, ← Int.mul_assoc]
    show _ + r (a + m) * _ + r (a + (m + 1)) * _ * _ = _
    omega
  generalize nv (sh r a) (m + 1 + 1) / D = k at h0 h1
  have h5 : k * (d m * Bd ^ m) ≤ k * D := Int.mul_le_mul_of_nonneg_left h2 h0
  rw [h4] at h1
  have h6 : Bd ^ m * (k * d m) < Bd ^ m * (r (a + (m + 1)) * Bd + r (a + m) + 1) := by
    rw [Int.mul_add, Int.mul_one, Int.mul_comm (Bd ^ m) (k * d m), Int.mul_assoc, Int.mul_comm (Bd ^ m), Int.add_comm (r (a + (m + 1)) * Bd)]; omega
  have h7 := Int.lt_of_mul_lt_mul_left h6 (Int.le_of_lt (Bp m))
  omega
/-- what is taken off, and what is left: so long as it is there -/
structure Off (r d : Nat → Int) (n a : Nat) (k : Int) (s : Nat → Int) (b : Bool) : Prop where
  u : ∀ i, U64 (s i)
  same : ∀ i, i < a ∨ a + n < i → s i = r i
  yes : b = true → nv (sh r a) (n + 1) = nv (sh s a) (n + 1) + k * nv d n
  no : b = false → nv (sh r a) (n + 1) < k * nv d n
theorem Off.stop {r d s : Nat → Int} {n a : Nat} {k D : Int} (h : Off r d n a k s true) (c : Col r n a D) (hD : D = nv d n) (hk : nv (sh r a) (n + 1) / D ≤ k) : k = nv (sh r a) (n + 1) / D := by
  have h1 := h.yes rfl
  have h2 := (nv_range (sh_u64 h.u a) (n + 1)).1
  rw [← hD] at h1
  have : k ≤ nv (sh r a) (n + 1) / D := Int.le_ediv_of_mul_le c.d0 (by omega)
  omega
theorem Off.down {r d s : Nat → Int} {n a : Nat} {k D : Int} (h : Off r d n a k s false) (c : Col r n a D) (hD : D = nv d n) : nv (sh r a) (n + 1) / D ≤ k - 1 := by
  have h1 := h.no rfl
  rw [← hD] at h1
  have := Int.ediv_lt_of_lt_mul c.d0 h1
  omega
theorem Off.left {r d s : Nat → Int} {n a : Nat} {k D : Int} (h : Off r d n a k s true) (c : Col r n a D) (hD : D = nv d n) (hk : k = nv (sh r a) (n + 1) / D) : nv r 9 = nv s 9 + k * (D * Bd ^ a) ∧ nv s 9 < D * Bd ^ a := by
  have h1 := h.yes rfl
  have hf := c.fits
  have e1 := c.whole
  have hz : nv (sh s (a + n + 1)) (8 - a - n) = 0 := by
    rw [← c.high]; exact nv_ext _ (fun i _ => h.same _ (Or.inr (by omega)))
  have e2 := nv_three s n a hf hz
  have e3 : nv s a = nv r a := nv_ext a (fun i hi => h.same _ (Or.inl hi))
  rw [← hD] at h1
  have h2 : nv (sh s a) (n + 1) = nv (sh r a) (n + 1) % D := by
    have := Int.mul_ediv_add_emod (nv (sh r a) (n + 1)) D
    rw [← hk, Int.mul_comm D k] at this
    omega
  have h3 : nv (sh s a) (n + 1) + 1 ≤ D := by have := Int.emod_lt_of_pos (nv (sh r a) (n + 1)) c.d0; omega
  have h4 := (nv_range c.u a).2
  have h5 := Int.mul_le_mul_of_nonneg_left h3 (Int.le_of_lt (Bp a))
  rw [Int.mul_add, Int.mul_one] at h5
  refine ⟨?_, ?_⟩
  · rw [e1, e2, e3, h1, Int.mul_add, ← Int.mul_assoc k D, Int.mul_comm (k * D) (Bd ^ a)]; omega
  · rw [e2, e3, Int.mul_comm D]; omega
theorem Col.none {r : Nat → Int} {n a : Nat} {D : Int} (c : Col r n a D) (hk : nv (sh r a) (n + 1) / D = 0) : nv r 9 < D * Bd ^ a := by
  have e1 := c.whole
  have h2 : nv (sh r a) (n + 1) + 1 ≤ D := by
    have h3 := Int.mul_ediv_add_emod (nv (sh r a) (n + 1)) D
    have := Int.emod_lt_of_pos (nv (sh r a) (n + 1)) c.d0
    rw [hk, Int.mul_zero] at h3; omega
  have h4 := (nv_range c.u a).2
  have h5 := Int.mul_le_mul_of_nonneg_left h2 (Int.le_of_lt (Bp a))
  rw [Int.mul_add, Int.mul_one] at h5
  rw [e1, Int.mul_comm D]; omega
/-- one part of taking off -/
theorem off_step {r0 r d : Nat → Int} {a i : Nat} {k c b c' b' p s : Int} (h : nv (sh r0 a) i + (b + c) * Bd ^ i = nv (sh r a) i + k * nv d i) (e1 : d i * k + c = c' * Bd + p) (e2 : r0 (a + i) - p - b = s - Bd * b') :
    nv (sh r0 a) (i + 1) + (b' + c') * Bd ^ (i + 1) = nv (sh (fun j => if j = a + i then s else r j) a) (i + 1) + k * nv d (i + 1) := by
  have hx : nv (sh (fun j => if j = a + i then s else r j) a) i = nv (sh r a) i := nv_ext i (fun j hj => by simp only [sh]; rw [if_neg (by omega)])
  have hy : sh (fun j => if j = a + i then s else r j) a i = s := by simp [sh]
  rw [nv, nv, nv, hx, hy, Int.mul_add, ← Int.mul_assoc k, Int.pow_succ]
  show _ + r0 (a + i) * _ + _ = _
  have e3 : r0 (a + i) * Bd ^ i + (b' + c') * (Bd ^ i * Bd) = (s + k * d i + (b + c)) * Bd ^ i := by
    rw [Int.mul_comm (Bd ^ i) Bd, ← Int.mul_assoc, ← Int.add_mul]
    congr 1
    rw [Int.add_mul, Int.mul_comm k (d i), Int.mul_comm b' Bd]
    omega
  have e4 : (s + k * d i + (b + c)) * Bd ^ i = s * Bd ^ i + k * d i * Bd ^ i + (b + c) * Bd ^ i := by rw [Int.add_mul, Int.add_mul]
  rw [e4] at e3
  omega
theorem off_end {r0 r d : Nat → Int} {a n : Nat} {k c b b' s : Int} (h : nv (sh r0 a) n + (b + c) * Bd ^ n = nv (sh r a) n + k * nv d n) (e2 : r0 (a + n) - c - b = s - Bd * b') :
    nv (sh r0 a) (n + 1) + b' * Bd ^ (n + 1) = nv (sh (fun j => if j = a + n then s else r j) a) (n + 1) + k * nv d n := by
  have hx : nv (sh (fun j => if j = a + n then s else r j) a) n = nv (sh r a) n := nv_ext n (fun j hj => by simp only [sh]; rw [if_neg (by omega)])
  have hy : sh (fun j => if j = a + n then s else r j) a n = s := by simp [sh]
  rw [nv, nv, hx, hy, Int.pow_succ]
  show _ + r0 (a + n) * _ + _ = _
  have e3 : r0 (a + n) * Bd ^ n + b' * (Bd ^ n * Bd) = (s + (b + c)) * Bd ^ n := by
    rw [Int.mul_comm (Bd ^ n) Bd, ← Int.mul_assoc, ← Int.add_mul]
    congr 1
    rw [Int.mul_comm b' Bd]; omega
  have e4 : (s + (b + c)) * Bd ^ n = s * Bd ^ n + (b + c) * Bd ^ n := by rw [Int.add_mul]
  rw [e4] at e3
  omega
theorem Off.of {r0 s d : Nat → Int} {a n : Nat} {k b : Int} (hu : ∀ i, U64 (s i)) (hs : ∀ i, i < a ∨ a + n < i → s i = r0 i) (h : nv (sh r0 a) (n + 1) + b * Bd ^ (n + 1) = nv (sh s a) (n + 1) + k * nv d n) (hb0 : 0 ≤ b) (hb1 : b ≤ 1) : Off r0 d n a k s (b == 0) := by
  have h1 := nv_range (sh_u64 hu a) (n + 1)
  refine ⟨hu, hs, fun e => ?_, fun e => ?_⟩
  · have : b = 0 := by simpa using e
    rw [this, Int.zero_mul] at h; omega
  · have : b = 1 := by have : ¬ b = 0 := by simpa using e
                       omega
    rw [this, Int.one_mul] at h; omega
/-- the start of the division -/
theorem div_start {u v : Nat → Int} {n m k : Nat} {P : Int} (hu : ∀ i, U64 (u i)) (hv : ∀ i, U64 (v i)) (hP : 0 < P) (hn : v n ≠ 0) (hm : m ≤ 8) (hz : ∀ i, m ≤ i → i < 8 → u i = 0) (hk : m ≤ n + k) : nv u 8 * P < nv v (n + 1) * P * Bd ^ k := by
  have h1 : nv u 8 < Bd ^ m := by rw [nv_more m 8 hm hz]; exact (nv_range hu m).2
  have h2 : Bd ^ n ≤ nv v (n + 1) := by
    rw [nv]
    have h3 := (nv_range hv n).1
    have h4 := Int.mul_le_mul_of_nonneg_right (show 1 ≤ v n by have := (hv n).1; omega) (Int.le_of_lt (Bp n))
    rw [Int.one_mul] at h4; omega
  have h5 : Bd ^ m ≤ Bd ^ n * Bd ^ k := by
    rw [← Int.pow_add]
    obtain ⟨j, hj⟩ := Nat.exists_eq_add_of_le hk
    rw [hj, Int.pow_add]
    have := Int.mul_le_mul_of_nonneg_left (show 1 ≤ Bd ^ j by have := Bp j; omega) (Int.le_of_lt (Bp m))
    omega
  have h6 := Int.mul_le_mul_of_nonneg_right h2 (Int.le_of_lt (Bp k))
  have h7 := Int.mul_lt_mul_of_pos_right (show nv u 8 < nv v (n + 1) * Bd ^ k by omega) hP
  rw [Int.mul_assoc, Int.mul_comm P, ← Int.mul_assoc]; exact h7
/-- the end of the division -/
theorem div_end {U v P Q T : Int} (hP : 0 < P) (hv : 0 < v) (h : U * P = Q * (v * P) + T) (h0 : 0 ≤ T) (hT : T < v * P) : Q = U / v ∧ T = (U % v) * P := by
  have h1 : T = (U - Q * v) * P := by rw [Int.sub_mul, Int.mul_assoc]; omega
  have h2 : 0 ≤ U - Q * v := by
    by_cases e : 0 ≤ U - Q * v
    · exact e
    · have := Int.mul_lt_mul_of_pos_right (show U - Q * v < 0 by omega) hP
      omega
  have h3 : U - Q * v < v := Int.lt_of_mul_lt_mul_right (by rw [← h1]; exact hT) (Int.le_of_lt hP)
  have h4 : U % v = U - Q * v := by
    have e : U = (U - Q * v) + v * Q := by rw [Int.mul_comm v Q]; omega
    conv => lhs; rw [e]
    rw [Int.add_mul_emod_self_left, Int.emod_eq_of_lt h2 h3]
  refine ⟨?_, by rw [h4]; exact h1⟩
  have h5 := Int.mul_ediv_add_emod U v
  rw [h4] at h5
  have h6 : v * (U / v) = v * Q := by rw [Int.mul_comm v Q]; omega
  exact (Int.eq_of_mul_eq_mul_left (by omega) h6).symm
end Go.Proofs.YtpadpmkfhljiiaaGreat
/- Rows of 8 and of 9 numbers in a block: that they lie there and may be written; loads, stores, new blocks. -/
namespace Go.Proofs.YtpadpmkfhljiiaaGreat
open Go.RowKit
/-- the first n cells of block b are the numbers v, and may be written -/
def Row (w : World) (b n : Nat) (v : Nat → Int) : Prop := ∀ i, i < n → w.cell? ⟨b, i, none⟩ = some (.int .u64 (v i)) ∧ w.frozen? ⟨b, i, none⟩ = false
def rowL (n : Nat) (v : Nat → Int) : List Value := (List.range n).map fun i => .int .u64 (v i)
theorem rowL_len (n : Nat) (v : Nat → Int) : (rowL n v).length = n := by simp [rowL]
theorem rowL_at (n : Nat) (v : Nat → Int) (i : Nat) (h : i < n) : (rowL n v)[i]? = some (.int .u64 (v i)) := by simp [rowL, h]
theorem rowL_ext {n : Nat} {u v : Nat → Int} (h : ∀ i, i < n → u i = v i) : rowL n u = rowL n v := by
  simp only [rowL]; apply List.map_congr_left; intro i hi; rw [h i (List.mem_range.1 hi)]
theorem rowL_one (n : Nat) (v : Nat → Int) : (rowL n v).toArray.all (·.oneCell') = true :=
  all_oneCell_toArray (by intro x hx; simp only [rowL, List.mem_map] at hx; obtain ⟨i, _, rfl⟩ := hx; rfl)
theorem Row.lt {w : World} {b n : Nat} {v : Nat → Int} (h : Row w b n v) (hn : 0 < n) : b < w.heap.size := World.block_lt_of_cell? w _ (h 0 hn).1
theorem Row.below {w w' : World} {B b n : Nat} {v : Nat → Int} (h : Row w b n v) (k : Below B w w') (hb : b < B) : Row w' b n v := fun i hi =>
  ⟨(k.cell (p := ⟨b, i, none⟩) hb).trans (h i hi).1, (k.frozen (p := ⟨b, i, none⟩) hb).trans (h i hi).2⟩
theorem Row.drew {w : World} {b n : Nat} {v : Nat → Int} (h : Row w b n v) : Row w.drew b n v := fun i hi => by simpa using h i hi
theorem Row.alloc {w : World} {b n : Nat} {v : Nat → Int} (h : Row w b n v) (o : Obj) : Row (w.alloc o) b n v := fun i hi => by
  have hb := World.block_lt_of_cell? w _ (h i hi).1
  exact ⟨by rw [World.cell?_alloc_lt _ _ _ hb]; exact (h i hi).1, by rw [World.frozen?_alloc_past _ _ _ hb]; exact (h i hi).2⟩
theorem Row.set_other {w : World} {b n : Nat} {v : Nat → Int} (h : Row w b n v) (p : Addr) (x : Value) (hp : p.block ≠ b) : Row (w.setCell p x) b n v := fun i hi =>
  ⟨by rw [World.cell?_setCell_other _ _ _ _ (by intro e; subst e; exact hp rfl)]; exact (h i hi).1, by rw [World.frozen?_setCell]; exact (h i hi).2⟩
theorem Row.set {w : World} {b n : Nat} {v : Nat → Int} (h : Row w b n v) (k : Nat) (x : Int) : Row (w.setCell ⟨b, k, none⟩ (.int .u64 x)) b n (fun i => if i = k then x else v i) := fun i hi => by
  refine ⟨?_, by rw [World.frozen?_setCell]; exact (h i hi).2⟩
  dsimp only
  by_cases e : i = k
  · subst e; rw [World.cell?_setCell_same _ _ _ (h i hi).1, if_pos rfl]
  · rw [World.cell?_setCell_other _ _ _ _ (by intro e'; injection e' with _ e' _; exact e e'.symm), if_neg e]; exact (h i hi).1
theorem Row.new (w : World) (t : TypeId) (n : Nat) (v : Nat → Int) : Row (w.alloc (.cells (rowL n v).toArray t)) w.heap.size n v := fun i hi => by
  rw [World.cell?_alloc_at _ _ _ _ rfl]
  exact ⟨by simp [rowL, hi], by simp [World.frozen?_alloc_at]⟩
theorem Row.range {w : World} {b n : Nat} {v : Nat → Int} (h : Row w b n v) : w.rangeAt b 0 (rowL n v) := fun j x hx => by
  have hj : j < n := by have := (List.getElem?_eq_some_iff.1 hx).1; rwa [rowL_len] at this
  rw [rowL_at n v j hj] at hx; rw [Nat.zero_add, ← hx]; exact (h j hj).1
theorem Row.there {w : World} {b n : Nat} {v : Nat → Int} (h : Row w b n v) : w.there b 0 n := fun j hj => by
  rw [Nat.zero_add, (h j hj).1]; exact ⟨rfl, (h j hj).2⟩
theorem Row.of_range {w : World} {b n : Nat} {u v : Nat → Int} (h : Row w b n u) : Row (w.setCells b 0 (rowL n v)) b n v := fun i hi => by
  have := World.rangeAt_setCells_same w b 0 (rowL n v) (by rw [rowL_len]; exact h.there) i _ (rowL_at n v i hi)
  rw [Nat.zero_add] at this
  exact ⟨this, by rw [World.frozen?_setCells]; exact (h i hi).2⟩
theorem Row.set_others {b n c : Nat} {v : Nat → Int} (hc : c ≠ b) : ∀ (vs : List Value) (o : Nat) {w : World}, Row w b n v → Row (w.setCells c o vs) b n v
  | [], _, _, h => h
  | x :: r, o, w, h => by rw [World.setCells]; exact Row.set_others hc r (o + 1) (h.set_other _ _ hc)
theorem Box.set_others {b c : Nat} {a0 a1 a2 a3 : Int} (hc : c ≠ b) : ∀ (vs : List Value) (o : Nat) {w : World}, Box w b a0 a1 a2 a3 → Box (w.setCells c o vs) b a0 a1 a2 a3
  | [], _, _, h => h
  | x :: r, o, w, h => by rw [World.setCells]; exact Box.set_others hc r (o + 1) (h.other _ _ hc)
theorem zero9 : (#[.int .u64 0, .int .u64 0, .int .u64 0, .int .u64 0, .int .u64 0, .int .u64 0, .int .u64 0, .int .u64 0, .int .u64 0] : Array Value) = (rowL 9 fun _ => 0).toArray := by rfl
theorem zero8 : (#[.int .u64 0, .int .u64 0, .int .u64 0, .int .u64 0, .int .u64 0, .int .u64 0, .int .u64 0, .int .u64 0] : Array Value) = (rowL 8 fun _ => 0).toArray := by rfl
theorem below_setCells {B : Nat} {a : World} (b : Nat) (hb : B ≤ b) : ∀ (vs : List Value) (o : Nat) (w : World), Below B a w → Below B a (w.setCells b o vs)
  | [], _, _, h => h
  | v :: r, o, w, h => by rw [World.setCells]; exact below_setCells b hb r (o + 1) _ (h.setCell hb v)
theorem store9 {ops : Array Oper} {rest : List Oper} {op : Oper} {a : Act} {w : World} {Q : Exit → Act → World → Prop} (g : Nat → Int) (b : Nat) (hgd : op.guard = none) (x y : Operand) (ho : op.op = .store 110 x y)
    (hx : a.eval x = .pointer (some ⟨b, 0, none⟩)) (hy : a.eval y = .agg (rowL 9 g).toArray) (ht : w.there b 0 9)
    (h : wpList Tryz.prog ops Q rest (a.put op.dst undef) (w.setCells b 0 (rowL 9 g))) : wpList Tryz.prog ops Q (op :: rest) a w :=
  wpList_store_mid hgd 110 x y ho b 0 (rowL 9 g).toArray hx hy (by rw [List.size_toArray, rowL_len]; exact ht) (by rw [List.size_toArray, rowL_len]; kernel_rfl) (rowL_one 9 g) h
theorem load9 {ops : Array Oper} {rest : List Oper} {op : Oper} {a : Act} {w : World} {Q : Exit → Act → World → Prop} (g : Nat → Int) (b : Nat) (hgd : op.guard = none) (x : Operand) (ho : op.op = .load 110 x)
    (hx : a.eval x = .pointer (some ⟨b, 0, none⟩)) (hr : w.rangeAt b 0 (rowL 9 g))
    (h : wpList Tryz.prog ops Q rest (a.put op.dst (.agg (rowL 9 g).toArray)) w) : wpList Tryz.prog ops Q (op :: rest) a w :=
  wpList_load_mid hgd 110 x ho b 0 hx (rowL 9 g) _ hr Tryz.underlying110 rfl (by rw [rowL_len]; kernel_rfl) h
theorem loadVar9 {w : World} {b : Nat} {g : Nat → Int} (h : w.rangeAt b 0 (rowL 9 g)) : (loadVar 110 ⟨b, 0, none⟩).run Tryz.prog w = .ok (.agg (rowL 9 g).toArray) w :=
  run_loadVar_mid w b 0 110 (rowL 9 g) _ h Tryz.underlying110 rfl (by rw [rowL_len]; kernel_rfl)
theorem store8 {ops : Array Oper} {rest : List Oper} {op : Oper} {a : Act} {w : World} {Q : Exit → Act → World → Prop} (g : Nat → Int) (b : Nat) (hgd : op.guard = none) (x y : Operand) (ho : op.op = .store 69 x y)
    (hx : a.eval x = .pointer (some ⟨b, 0, none⟩)) (hy : a.eval y = .agg (rowL 8 g).toArray) (ht : w.there b 0 8)
    (h : wpList Tryz.prog ops Q rest (a.put op.dst undef) (w.setCells b 0 (rowL 8 g))) : wpList Tryz.prog ops Q (op :: rest) a w :=
  wpList_store_mid hgd 69 x y ho b 0 (rowL 8 g).toArray hx hy (by rw [List.size_toArray, rowL_len]; exact ht) (by rw [List.size_toArray, rowL_len]; kernel_rfl) (rowL_one 8 g) h
theorem load8 {ops : Array Oper} {rest : List Oper} {op : Oper} {a : Act} {w : World} {Q : Exit → Act → World → Prop} (g : Nat → Int) (b : Nat) (hgd : op.guard = none) (x : Operand) (ho : op.op = .load 69 x)
    (hx : a.eval x = .pointer (some ⟨b, 0, none⟩)) (hr : w.rangeAt b 0 (rowL 8 g))
    (h : wpList Tryz.prog ops Q rest (a.put op.dst (.agg (rowL 8 g).toArray)) w) : wpList Tryz.prog ops Q (op :: rest) a w :=
  wpList_load_mid hgd 69 x ho b 0 hx (rowL 8 g) _ hr Tryz.underlying69 rfl (by rw [rowL_len]; kernel_rfl) h
theorem loadVar8 {w : World} {b : Nat} {g : Nat → Int} (h : w.rangeAt b 0 (rowL 8 g)) : (loadVar 69 ⟨b, 0, none⟩).run Tryz.prog w = .ok (.agg (rowL 8 g).toArray) w :=
  run_loadVar_mid w b 0 69 (rowL 8 g) _ h Tryz.underlying69 rfl (by rw [rowL_len]; kernel_rfl)
theorem results_ct {fn : Func} {p q : Tmp} {ty : TypeId} (h : fn.results = #[.cell p ty, .tmp q]) (tmps : Array Value) (P : Program) (w : World) (a : Addr) (ha : tmps.getD p undef = .pointer (some a)) {v x : Value} (hx : tmps.getD q undef = x) (hl : (loadVar ty a).run P w = .ok v w) : (results fn tmps).run P w = .ok (.tuple #[v, x]) w := by
  have ha' : tmps[p]?.getD undef = .pointer (some a) := by simpa using ha
  have hx' : tmps[q]?.getD undef = x := by simpa using hx
  simp only [results, h]
  simp [ha', hx', hl, asAddr]
theorem results_cc {fn : Func} {p q : Tmp} {ty ty2 : TypeId} (h : fn.results = #[.cell p ty, .cell q ty2]) (tmps : Array Value) (P : Program) (w : World) (a b : Addr) (ha : tmps.getD p undef = .pointer (some a)) (hb : tmps.getD q undef = .pointer (some b)) {v x : Value} (hl : (loadVar ty a).run P w = .ok v w) (hl2 : (loadVar ty2 b).run P w = .ok x w) : (results fn tmps).run P w = .ok (.tuple #[v, x]) w := by
  have ha' : tmps[p]?.getD undef = .pointer (some a) := by simpa using ha
  have hb' : tmps[q]?.getD undef = .pointer (some b) := by simpa using hb
  simp only [results, h]
  simp [ha', hb', hl, hl2, asAddr]
theorem results_c {fn : Func} {p : Tmp} {ty : TypeId} (h : fn.results = #[.cell p ty]) (tmps : Array Value) (P : Program) (w : World) (a : Addr) (ha : tmps.getD p undef = .pointer (some a)) {v : Value} (hl : (loadVar ty a).run P w = .ok v w) : (results fn tmps).run P w = .ok v w := by
  have ha' : tmps[p]?.getD undef = .pointer (some a) := by simpa using ha
  simp only [results, h]
  simp [ha', hl, asAddr]
theorem Box.row {w : World} {b : Nat} {a0 a1 a2 a3 : Int} (h : Box w b a0 a1 a2 a3) (i : Nat) (hi : i < 4) : w.cell? ⟨b, i, none⟩ = some (.int .u64 (limb a0 a1 a2 a3 i)) := h.1 i hi
end Go.Proofs.YtpadpmkfhljiiaaGreat
/- A law's own boxes: words in blocks of the law's own, all old memory as it was. -/
namespace Go.Proofs.YtpadpmkfhljiiaaGreat
open Go.RowKit
structure Bx (w : World) (l : List (Nat × Int × Int × Int × Int)) (W : World) : Prop where
  bel : Below w.heap.size w W
  low : ∀ p ∈ l, w.heap.size ≤ p.1
  box : ∀ p ∈ l, Box W p.1 p.2.1 p.2.2.1 p.2.2.2.1 p.2.2.2.2
theorem Bx.past {w W W' : World} {l : List (Nat × Int × Int × Int × Int)} (h : Bx w l W) (k : Below W.heap.size W W') : Bx w l W' :=
  ⟨h.bel.trans (k.mono h.bel.size), h.low, fun p hp => (h.box p hp).below k (h.box p hp).lt⟩
theorem Bx.drew {w W : World} {l : List (Nat × Int × Int × Int × Int)} (h : Bx w l W) : Bx w l W.drew := ⟨h.bel.drew, h.low, fun p hp => (h.box p hp).drew⟩
theorem Bx.start (w : World) : Bx w [] w := ⟨Below.refl _ _, (fun _ h => by cases h), (fun _ h => by cases h)⟩
theorem Bx.alloc {w W : World} {l : List (Nat × Int × Int × Int × Int)} (h : Bx w l W) (a0 a1 a2 a3 : Int) : Bx w ((W.heap.size, a0, a1, a2, a3) :: l) (W.alloc (.cells #[.int .u64 a0, .int .u64 a1, .int .u64 a2, .int .u64 a3] 24)) := by
  refine ⟨h.bel.alloc h.bel.size _, fun p hp => ?_, fun p hp => ?_⟩
  · rcases List.mem_cons.1 hp with rfl | hp
    · exact h.bel.size
    · exact h.low p hp
  · rcases List.mem_cons.1 hp with rfl | hp
    · exact Box.new W 24 a0 a1 a2 a3
    · exact (h.box p hp).alloc _
theorem Bx.sub {w W : World} {l m : List (Nat × Int × Int × Int × Int)} (h : Bx w l W) (k : ∀ p ∈ m, p ∈ l) : Bx w m W := ⟨h.bel, fun p hp => h.low p (k p hp), fun p hp => h.box p (k p hp)⟩
theorem Bx.put {w W : World} {l : List (Nat × Int × Int × Int × Int)} {b : Nat} {s0 s1 s2 s3 : Int} (h : Bx w ((b, s0, s1, s2, s3) :: l) W) (hn : ∀ p ∈ l, p.1 ≠ b) (a0 a1 a2 a3 : Int) : Bx w ((b, a0, a1, a2, a3) :: l) (put4 W b a0 a1 a2 a3) := by
  have hb : w.heap.size ≤ b := h.low _ (List.Mem.head _)
  refine ⟨below_put h.bel hb _ _ _ _, fun p hp => ?_, fun p hp => ?_⟩
  · rcases List.mem_cons.1 hp with rfl | hp
    · exact hb
    · exact h.low p (List.Mem.tail _ hp)
  · rcases List.mem_cons.1 hp with rfl | hp
    · exact (h.box _ (List.Mem.head _)).put a0 a1 a2 a3
    · exact (h.box p (List.Mem.tail _ hp)).put_other (fun e => hn p hp e.symm) _ _ _ _
theorem Bx.lt {w W : World} {l : List (Nat × Int × Int × Int × Int)} (h : Bx w l W) (p : Nat × Int × Int × Int × Int) (hp : p ∈ l) : p.1 < W.heap.size := (h.box p hp).lt
theorem Bx.f0 {w W : World} {b : Nat} {a0 a1 a2 a3 : Int} {l : List (Nat × Int × Int × Int × Int)} (h : Bx w l W) (hp : (b, a0, a1, a2, a3) ∈ l) : W.cell? ⟨b, 0, none⟩ = some (.int .u64 a0) ∧ W.cell? ⟨b, 1, none⟩ = some (.int .u64 a1) ∧ W.cell? ⟨b, 2, none⟩ = some (.int .u64 a2) ∧ W.cell? ⟨b, 3, none⟩ = some (.int .u64 a3) ∧
    W.frozen? ⟨b, 0, none⟩ = false ∧ W.frozen? ⟨b, 1, none⟩ = false ∧ W.frozen? ⟨b, 2, none⟩ = false ∧ W.frozen? ⟨b, 3, none⟩ = false := Box.facts (h.box _ hp)
theorem op16 {q0 q1 q2 q3 q4 q5 q6 q7 q8 q9 q10 q11 q12 q13 q14 q15 x : Oper} {r : List Oper} : (q0 :: q1 :: q2 :: q3 :: q4 :: q5 :: q6 :: q7 :: q8 :: q9 :: q10 :: q11 :: q12 :: q13 :: q14 :: q15 :: x :: r).toArray[16]? = some x := rfl
theorem op17 {q0 q1 q2 q3 q4 q5 q6 q7 q8 q9 q10 q11 q12 q13 q14 q15 q16 x : Oper} {r : List Oper} : (q0 :: q1 :: q2 :: q3 :: q4 :: q5 :: q6 :: q7 :: q8 :: q9 :: q10 :: q11 :: q12 :: q13 :: q14 :: q15 :: q16 :: x :: r).toArray[17]? = some x := rfl
theorem op18 {q0 q1 q2 q3 q4 q5 q6 q7 q8 q9 q10 q11 q12 q13 q14 q15 q16 q17 x : Oper} {r : List Oper} : (q0 :: q1 :: q2 :: q3 :: q4 :: q5 :: q6 :: q7 :: q8 :: q9 :: q10 :: q11 :: q12 :: q13 :: q14 :: q15 :: q16 :: q17 :: x :: r).toArray[18]? = some x := rfl
theorem op19 {q0 q1 q2 q3 q4 q5 q6 q7 q8 q9 q10 q11 q12 q13 q14 q15 q16 q17 q18 x : Oper} {r : List Oper} : (q0 :: q1 :: q2 :: q3 :: q4 :: q5 :: q6 :: q7 :: q8 :: q9 :: q10 :: q11 :: q12 :: q13 :: q14 :: q15 :: q16 :: q17 :: q18 :: x :: r).toArray[19]? = some x := rfl
theorem op20 {q0 q1 q2 q3 q4 q5 q6 q7 q8 q9 q10 q11 q12 q13 q14 q15 q16 q17 q18 q19 x : Oper} {r : List Oper} : (q0 :: q1 :: q2 :: q3 :: q4 :: q5 :: q6 :: q7 :: q8 :: q9 :: q10 :: q11 :: q12 :: q13 :: q14 :: q15 :: q16 :: q17 :: q18 :: q19 :: x :: r).toArray[20]? = some x := rfl
theorem op21 {q0 q1 q2 q3 q4 q5 q6 q7 q8 q9 q10 q11 q12 q13 q14 q15 q16 q17 q18 q19 q20 x : Oper} {r : List Oper} : (q0 :: q1 :: q2 :: q3 :: q4 :: q5 :: q6 :: q7 :: q8 :: q9 :: q10 :: q11 :: q12 :: q13 :: q14 :: q15 :: q16 :: q17 :: q18 :: q19 :: q20 :: x :: r).toArray[21]? = some x := rfl
theorem op22 {q0 q1 q2 q3 q4 q5 q6 q7 q8 q9 q10 q11 q12 q13 q14 q15 q16 q17 q18 q19 q20 q21 x : Oper} {r : List Oper} : (q0 :: q1 :: q2 :: q3 :: q4 :: q5 :: q6 :: q7 :: q8 :: q9 :: q10 :: q11 :: q12 :: q13 :: q14 :: q15 :: q16 :: q17 :: q18 :: q19 :: q20 :: q21 :: x :: r).toArray[22]? = some x := rfl
theorem op23 {q0 q1 q2 q3 q4 q5 q6 q7 q8 q9 q10 q11 q12 q13 q14 q15 q16 q17 q18 q19 q20 q21 q22 x : Oper} {r : List Oper} : (q0 :: q1 :: q2 :: q3 :: q4 :: q5 :: q6 :: q7 :: q8 :: q9 :: q10 :: q11 :: q12 :: q13 :: q14 :: q15 :: q16 :: q17 :: q18 :: q19 :: q20 :: q21 :: q22 :: x :: r).toArray[23]? = some x := rfl
theorem op24 {q0 q1 q2 q3 q4 q5 q6 q7 q8 q9 q10 q11 q12 q13 q14 q15 q16 q17 q18 q19 q20 q21 q22 q23 x : Oper} {r : List Oper} : (q0 :: q1 :: q2 :: q3 :: q4 :: q5 :: q6 :: q7 :: q8 :: q9 :: q10 :: q11 :: q12 :: q13 :: q14 :: q15 :: q16 :: q17 :: q18 :: q19 :: q20 :: q21 :: q22 :: q23 :: x :: r).toArray[24]? = some x := rfl
theorem op25 {q0 q1 q2 q3 q4 q5 q6 q7 q8 q9 q10 q11 q12 q13 q14 q15 q16 q17 q18 q19 q20 q21 q22 q23 q24 x : Oper} {r : List Oper} : (q0 :: q1 :: q2 :: q3 :: q4 :: q5 :: q6 :: q7 :: q8 :: q9 :: q10 :: q11 :: q12 :: q13 :: q14 :: q15 :: q16 :: q17 :: q18 :: q19 :: q20 :: q21 :: q22 :: q23 :: q24 :: x :: r).toArray[25]? = some x := rfl
theorem op26 {q0 q1 q2 q3 q4 q5 q6 q7 q8 q9 q10 q11 q12 q13 q14 q15 q16 q17 q18 q19 q20 q21 q22 q23 q24 q25 x : Oper} {r : List Oper} : (q0 :: q1 :: q2 :: q3 :: q4 :: q5 :: q6 :: q7 :: q8 :: q9 :: q10 :: q11 :: q12 :: q13 :: q14 :: q15 :: q16 :: q17 :: q18 :: q19 :: q20 :: q21 :: q22 :: q23 :: q24 :: q25 :: x :: r).toArray[26]? = some x := rfl
theorem op27 {q0 q1 q2 q3 q4 q5 q6 q7 q8 q9 q10 q11 q12 q13 q14 q15 q16 q17 q18 q19 q20 q21 q22 q23 q24 q25 q26 x : Oper} {r : List Oper} : (q0 :: q1 :: q2 :: q3 :: q4 :: q5 :: q6 :: q7 :: q8 :: q9 :: q10 :: q11 :: q12 :: q13 :: q14 :: q15 :: q16 :: q17 :: q18 :: q19 :: q20 :: q21 :: q22 :: q23 :: q24 :: q25 :: q26 :: x :: r).toArray[27]? = some x := rfl
theorem op28 {q0 q1 q2 q3 q4 q5 q6 q7 q8 q9 q10 q11 q12 q13 q14 q15 q16 q17 q18 q19 q20 q21 q22 q23 q24 q25 q26 q27 x : Oper} {r : List Oper} : (q0 :: q1 :: q2 :: q3 :: q4 :: q5 :: q6 :: q7 :: q8 :: q9 :: q10 :: q11 :: q12 :: q13 :: q14 :: q15 :: q16 :: q17 :: q18 :: q19 :: q20 :: q21 :: q22 :: q23 :: q24 :: q25 :: q26 :: q27 :: x :: r).toArray[28]? = some x := rfl
theorem op29 {q0 q1 q2 q3 q4 q5 q6 q7 q8 q9 q10 q11 q12 q13 q14 q15 q16 q17 q18 q19 q20 q21 q22 q23 q24 q25 q26 q27 q28 x : Oper} {r : List Oper} : (q0 :: q1 :: q2 :: q3 :: q4 :: q5 :: q6 :: q7 :: q8 :: q9 :: q10 :: q11 :: q12 :: q13 :: q14 :: q15 :: q16 :: q17 :: q18 :: q19 :: q20 :: q21 :: q22 :: q23 :: q24 :: q25 :: q26 :: q27 :: q28 :: x :: r).toArray[29]? = some x := rfl
end Go.Proofs.YtpadpmkfhljiiaaGreat
/- Knuth's digit: a guess that is brought down. -/
namespace Go.Proofs.YtpadpmkfhljiiaaGreat
open Go.RowKit
def B32 : Nat := 4294967296
/-- the guess is no less than the digit, and what is left of the highest part goes with it -/
structure Kn (y1 y0 u2 u1 q r : Nat) : Prop where
  eq : u2 = q * y1 + r
  ge : (u2 * B32 + u1) / (y1 * B32 + y0) ≤ q
  le : q ≤ B32 + 1
structure Ky (y1 y0 u2 u1 : Nat) : Prop where
  y1a : 2147483648 ≤ y1
  y1b : y1 < B32
  y0b : y0 < B32
  u1b : u1 < B32
  u2b : u2 < y1 * B32 + y0
theorem Ky.lt {y1 y0 u2 u1 : Nat} (h : Ky y1 y0 u2 u1) : (u2 * B32 + u1) / (y1 * B32 + y0) < B32 := by
  refine (Nat.div_lt_iff_lt_mul (by have := h.y1a; unfold B32; omega)).2 ?_
  have h1 := h.u1b
  have h2 := h.u2b
  generalize y1 * B32 + y0 = y at h2 ⊢
  rw [Nat.mul_comm B32 y]
  have h3 : (u2 + 1) * B32 ≤ y * B32 := Nat.mul_le_mul_right _ h2
  rw [Nat.add_mul, Nat.one_mul] at h3
  omega
theorem Kn.prod {y1 y0 u2 u1 q r : Nat} (h : u2 = q * y1 + r) : q * (y1 * B32 + y0) + (B32 * r + u1) = u2 * B32 + u1 + q * y0 := by
  rw [h, Nat.mul_add, ← Nat.mul_assoc, Nat.add_mul, Nat.mul_comm r B32]; omega
theorem Kn.first {y1 y0 u2 u1 : Nat} (h : Ky y1 y0 u2 u1) : Kn y1 y0 u2 u1 (u2 / y1) (u2 % y1) := by
  have ha := h.y1a
  have hb := h.y1b
  have hc := h.y0b
  have hd := h.u2b
  have he := h.u1b
  refine ⟨by rw [Nat.mul_comm]; exact (Nat.div_add_mod u2 y1).symm, ?_, ?_⟩
  · refine Nat.le_of_lt_succ ((Nat.div_lt_iff_lt_mul (by unfold B32; omega)).2 ?_)
    have h1 : u2 < (u2 / y1 + 1) * y1 := by rw [Nat.mul_comm]; exact Nat.lt_mul_div_succ u2 (by omega)
    show u2 * B32 + u1 < (u2 / y1 + 1) * (y1 * B32 + y0)
    generalize u2 / y1 + 1 = k at h1 ⊢
    have h2 : (u2 + 1) * B32 ≤ k * y1 * B32 := Nat.mul_le_mul_right _ h1
    rw [Nat.mul_add, ← Nat.mul_assoc]
    rw [Nat.add_mul, Nat.one_mul] at h2
    omega
  · refine Nat.le_of_lt_succ ((Nat.div_lt_iff_lt_mul (by omega)).2 ?_)
    unfold B32 at *
    show u2 < (4294967296 + 1 + 1) * y1
    omega
theorem Kn.down {y1 y0 u2 u1 q r : Nat} (k : Ky y1 y0 u2 u1) (h : Kn y1 y0 u2 u1 q r) (hc : B32 ≤ q ∨ B32 * r + u1 < q * y0) : 0 < q ∧ Kn y1 y0 u2 u1 (q - 1) (r + y1) ∧ q - 1 ≤ B32 := by
  have hlt : (u2 * B32 + u1) / (y1 * B32 + y0) < q := by
    rcases hc with hc | hc
    · exact Nat.lt_of_lt_of_le k.lt hc
    · refine (Nat.div_lt_iff_lt_mul (by have := k.y1a; unfold B32; omega)).2 ?_
      have := Kn.prod (y0 := y0) (u1 := u1) h.eq
      omega
  have hq : 0 < q := Nat.lt_of_le_of_lt (Nat.zero_le _) hlt
  have hl := h.le
  refine ⟨hq, ⟨?_, Nat.le_sub_one_of_lt hlt, by omega⟩, by omega⟩
  have he := h.eq
  obtain ⟨p, rfl⟩ : ∃ p, q = p + 1 := ⟨q - 1, by omega⟩
  rw [Nat.add_mul, Nat.one_mul] at he
  rw [Nat.add_sub_cancel]; omega
theorem Kn.stop {y1 y0 u2 u1 q r : Nat} (k : Ky y1 y0 u2 u1) (h : Kn y1 y0 u2 u1 q r) (hc : q * y0 ≤ B32 * r + u1) : q = (u2 * B32 + u1) / (y1 * B32 + y0) := by
  refine Nat.le_antisymm ((Nat.le_div_iff_mul_le (by have := k.y1a; unfold B32; omega)).2 ?_) h.ge
  have := Kn.prod (y0 := y0) (u1 := u1) h.eq
  omega
theorem Kn.leave {y1 y0 u2 u1 q r : Nat} (k : Ky y1 y0 u2 u1) (h : Kn y1 y0 u2 u1 q r) (hq : q ≤ B32) (hr : B32 ≤ r) : q = (u2 * B32 + u1) / (y1 * B32 + y0) := by
  refine h.stop k ?_
  have h1 : q * y0 ≤ B32 * y0 := Nat.mul_le_mul_right _ hq
  have h2 : B32 * y0 ≤ B32 * r := Nat.mul_le_mul_left _ (by have := k.y0b; omega)
  omega
end Go.Proofs.YtpadpmkfhljiiaaGreat
/- What bits.Div64 reckons ahead of its loops. -/
namespace Go.Proofs.YtpadpmkfhljiiaaGreat
open Go.RowKit
theorem and_low (a : Nat) (ha : a < 18446744073709551616) : bits .and .u64 (a : Int) 4294967295 = ((a % 4294967296 : Nat) : Int) := by
  have h := u64_and_nat a 4294967295 ha (by omega)
  rw [show ((4294967295 : Nat) : Int) = 4294967295 from rfl] at h
  rw [h, show (4294967295 : Nat) = 2 ^ 32 - 1 from rfl, Nat.and_two_pow_sub_one_eq_mod]
theorem norm_y (y s : Nat) (hy : y < 18446744073709551616) (h0 : y ≠ 0) (es : (64 : Int) - (Lib.bitLen y : Int) = (s : Int)) : 9223372036854775808 ≤ y * 2 ^ s ∧ y * 2 ^ s < 18446744073709551616 := by
  obtain ⟨h1, h2, h3, h4⟩ := bitLen_range y hy h0
  generalize Lib.bitLen y = L at *
  have e1 : 2 ^ (L - 1) * 2 ^ s = 9223372036854775808 := by rw [← Nat.pow_add, show L - 1 + s = 63 by omega]
  have e2 : 2 ^ L * 2 ^ s = 18446744073709551616 := by rw [← Nat.pow_add, show L + s = 64 by omega]
  have a1 : 2 ^ (L - 1) * 2 ^ s ≤ y * 2 ^ s := Nat.mul_le_mul_right _ h2
  have a2 : y * 2 ^ s < 2 ^ L * 2 ^ s := Nat.mul_lt_mul_of_pos_right h3 (Nat.two_pow_pos s)
  omega
theorem or_high (hi lo s : Nat) (hs : s ≤ 63) (hh : hi * 2 ^ s < 18446744073709551616) (hl : lo < 18446744073709551616) : bits .or .u64 ((hi * 2 ^ s : Nat) : Int) ((lo / 2 ^ (64 - s) : Nat) : Int) = ((hi * 2 ^ s + lo / 2 ^ (64 - s) : Nat) : Int) := by
  have hb : lo / 2 ^ (64 - s) < 2 ^ s := by
    refine (Nat.div_lt_iff_lt_mul (Nat.two_pow_pos _)).2 ?_
    rw [← Nat.pow_add, show s + (64 - s) = 64 by omega]; exact hl
  have hb2 : lo / 2 ^ (64 - s) < 18446744073709551616 := Nat.lt_of_le_of_lt (Nat.div_le_self _ _) hl
  rw [u64_or_nat _ _ hh hb2, ← Nat.shiftLeft_eq hi, ← Nat.shiftLeft_add_eq_or_of_lt hb]
/-- both digits together are the quotient, what is left behind the second is the rest -/
theorem two_digits (u2 u1 u0 y : Nat) (hy : 0 < y) : ((u2 * B32 + u1) * B32 + u0) / y = (u2 * B32 + u1) / y * B32 + ((u2 * B32 + u1) % y * B32 + u0) / y ∧ ((u2 * B32 + u1) * B32 + u0) % y = ((u2 * B32 + u1) % y * B32 + u0) % y := by
  have e := Nat.div_add_mod (u2 * B32 + u1) y
  generalize u2 * B32 + u1 = u at e ⊢
  have e2 : u * B32 + u0 = y * (u / y * B32) + (u % y * B32 + u0) := by
    have h : u * B32 = (y * (u / y) + u % y) * B32 := by rw [e]
    rw [h, Nat.add_mul, Nat.mul_assoc]; omega
  rw [e2, Nat.mul_add_div hy, Nat.mul_add_mod]
  exact ⟨rfl, rfl⟩
end Go.Proofs.YtpadpmkfhljiiaaGreat
/- What bits.Div64 reckons around its loops, as rules for the walk. -/
namespace Go.Proofs.YtpadpmkfhljiiaaGreat
open Go.RowKit
theorem wrap_nat (n : Nat) (h : n < 18446744073709551616) : IntKind.u64.wrap (n : Int) = (n : Int) := by rw [IntKind.wrap_u64]; omega
theorem shl_nat (a s : Nat) : (a : Int) * 2 ^ s = ((a * 2 ^ s : Nat) : Int) := by rw [Int.natCast_mul, Int.natCast_pow]; rfl
theorem shr_nat (a k : Nat) : (a : Int) / 2 ^ k = ((a / 2 ^ k : Nat) : Int) := by rw [Int.natCast_ediv, Int.natCast_pow]; rfl
theorem wrap_mod (n : Nat) : IntKind.u64.wrap (n : Int) = ((n % 18446744073709551616 : Nat) : Int) := by rw [IntKind.wrap_u64]; omega
theorem digit_facts {y1 y0 u2 u1 : Nat} (k : Ky y1 y0 u2 u1) : ∃ q p r : Nat, Int.tdiv (u2 : Int) (y1 : Int) = (q : Int) ∧ IntKind.u64.wrap (q : Int) = (q : Int) ∧ IntKind.u64.wrap ((q : Int) * (y1 : Int)) = (p : Int) ∧ IntKind.u64.wrap ((u2 : Int) - (p : Int)) = (r : Int) ∧ Kn y1 y0 u2 u1 q r ∧ r < B32 := by
  have hf := Kn.first k
  have h1 := hf.le
  have h2 := k.y1a
  have h3 := k.y1b
  have h4 := k.y0b
  have h5 := k.u2b
  have hu : u2 < 18446744073709551616 := by
    have : y1 * B32 ≤ 4294967295 * B32 := Nat.mul_le_mul_right _ (by unfold B32 at h3; omega)
    unfold B32 at *; omega
  have he := Nat.div_add_mod u2 y1
  have hm : u2 % y1 < y1 := Nat.mod_lt _ (by omega)
  refine ⟨u2 / y1, u2 / y1 * y1, u2 % y1, ?_, ?_, ?_, ?_, hf, by omega⟩
  · rw [Int.tdiv_eq_ediv_of_nonneg (by omega), Int.natCast_ediv]
  · exact wrap_nat _ (by unfold B32 at h1; omega)
  · rw [← Int.natCast_mul]; exact wrap_nat _ (by rw [Nat.mul_comm]; omega)
  · rw [Nat.mul_comm] at he
    have : ((u2 : Int) - ((u2 / y1 * y1 : Nat) : Int)) = ((u2 % y1 : Nat) : Int) := by omega
    rw [this]; exact wrap_nat _ (by omega)
theorem left_facts (u2 u1 ys Q R : Nat) (hy : 0 < ys) (hy2 : ys < 18446744073709551616) (hQ : Q = (u2 * B32 + u1) / ys) (hR : R = (u2 * B32 + u1) % ys) : ∃ c1 c2 c3 : Nat, IntKind.u64.wrap ((u2 : Int) * 4294967296) = (c1 : Int) ∧ IntKind.u64.wrap ((c1 : Int) + (u1 : Int)) = (c2 : Int) ∧ IntKind.u64.wrap ((Q : Int) * (ys : Int)) = (c3 : Int) ∧ IntKind.u64.wrap ((c2 : Int) - (c3 : Int)) = (R : Int) := by
  have e := Nat.div_add_mod (u2 * B32 + u1) ys
  rw [← hQ, ← hR, Nat.mul_comm] at e
  have hR2 : R < ys := by rw [hR]; exact Nat.mod_lt _ hy
  unfold B32 at e
  refine ⟨u2 * 4294967296 % 18446744073709551616, (u2 * 4294967296 % 18446744073709551616 + u1) % 18446744073709551616, Q * ys % 18446744073709551616, ?_, ?_, ?_, ?_⟩
  · rw [IntKind.wrap_u64]; omega
  · rw [IntKind.wrap_u64]; omega
  · rw [← Int.natCast_mul]; exact wrap_mod _
  · rw [IntKind.wrap_u64]
    generalize Q * ys = n at e ⊢
    omega
theorem whole_num (hi lo s u2 u10 : Nat) (hs : s ≤ 63) (h2 : u2 = hi * 2 ^ s + lo / 2 ^ (64 - s)) (h1 : u10 = lo * 2 ^ s % 18446744073709551616) : (u2 * B32 + u10 / 4294967296) * B32 + u10 % 4294967296 = (hi * 18446744073709551616 + lo) * 2 ^ s := by
  have e1 : lo * 2 ^ s / 18446744073709551616 = lo / 2 ^ (64 - s) := by
    have : (18446744073709551616 : Nat) = 2 ^ (64 - s) * 2 ^ s := by rw [← Nat.pow_add, show 64 - s + s = 64 by omega]
    rw [this, Nat.mul_div_mul_right _ _ (Nat.two_pow_pos s)]
  have e2 := Nat.div_add_mod (lo * 2 ^ s) 18446744073709551616
  rw [e1, ← h1] at e2
  rw [Nat.add_mul (hi * 18446744073709551616) lo, ← e2]
  have e3 : hi * 18446744073709551616 * 2 ^ s = hi * 2 ^ s * 18446744073709551616 := by rw [Nat.mul_assoc, Nat.mul_comm 18446744073709551616, ← Nat.mul_assoc]
  rw [e3, h2]
  generalize hi * 2 ^ s = a
  generalize lo / 2 ^ (64 - s) = b
  unfold B32
  omega
theorem end_facts (hi lo y s u2 u10 Q1 R1 Q0 R0 : Nat) (hs : s ≤ 63) (hy : 0 < y) (h2 : u2 = hi * 2 ^ s + lo / 2 ^ (64 - s)) (h1 : u10 = lo * 2 ^ s % 18446744073709551616)
    (hQ1 : Q1 = (u2 * B32 + u10 / 4294967296) / (y * 2 ^ s)) (hR1 : R1 = (u2 * B32 + u10 / 4294967296) % (y * 2 ^ s)) (hQ0 : Q0 = (R1 * B32 + u10 % 4294967296) / (y * 2 ^ s)) (hR0 : R0 = (R1 * B32 + u10 % 4294967296) % (y * 2 ^ s)) :
    Q1 * B32 + Q0 = (hi * 18446744073709551616 + lo) / y ∧ R0 / 2 ^ s = (hi * 18446744073709551616 + lo) % y := by
  have hp := Nat.two_pow_pos s
  have hd := two_digits u2 (u10 / 4294967296) (u10 % 4294967296) (y * 2 ^ s) (Nat.mul_pos hy hp)
  rw [whole_num hi lo s u2 u10 hs h2 h1, ← hQ1, ← hR1, ← hQ0, ← hR0, Nat.mul_div_mul_right _ _ hp, Nat.mul_mod_mul_right] at hd
  refine ⟨hd.1.symm, ?_⟩
  rw [← hd.2, Nat.mul_div_cancel _ hp]
end Go.Proofs.YtpadpmkfhljiiaaGreat
