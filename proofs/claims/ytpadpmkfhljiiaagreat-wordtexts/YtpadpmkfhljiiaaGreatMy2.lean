/- Numbers of many parts of 64 bits, and what a long division reckons: no condition, no Go text. -/
import Derived.Test.YtpadpmkfhljiiaaGreatMy1
import Derived.Deep.MidRow
import Derived.Deep.CutRange
import Derived.Deep.DeepCutAuto
import Derived.Deep.QuietTactic
import Derived.BigQuiet
import Derived.Deep.RegionHeld3
import Derived.OwnWalk
import Derived.Laws.AppendOwnNone
import Derived.Laws.OwnMore
import Derived.Deep.RegionWith
namespace Go.Proofs.YtpadpmkfhljiiaaGreat
theorem Bd_pos : 0 < Bd := by unfold Bd; omega
theorem Bp (n : Nat) : (0 : Int) < Bd ^ n := Int.pow_pos Bd_pos
/-- the number of the first n parts -/
def nv (r : Nat → Int) : Nat → Int
  | 0 => 0
  | n + 1 => nv r n + r n * Bd ^ n
/-- the parts from k on -/
def sh (r : Nat → Int) (k : Nat) (i : Nat) : Int := r (k + i)
theorem nv_range {r : Nat → Int} (h : ∀ i, U64 (r i)) : ∀ n, 0 ≤ nv r n ∧ nv r n < Bd ^ n
  | 0 => by simp [nv]
  | n + 1 => by
    obtain ⟨h1, h2⟩ := nv_range h n
    have h3 := Bp n
    have h4 : (r n + 1) * Bd ^ n ≤ Bd * Bd ^ n := Int.mul_le_mul_of_nonneg_right (h n).2 (Int.le_of_lt h3)
    have h5 : 0 ≤ r n * Bd ^ n := Int.mul_nonneg (h n).1 (Int.le_of_lt h3)
    rw [Int.add_mul, Int.one_mul] at h4
    rw [nv, Int.pow_succ, Int.mul_comm (Bd ^ n) Bd]; omega
theorem nv_ext {r s : Nat → Int} : ∀ n, (∀ i, i < n → r i = s i) → nv r n = nv s n
  | 0, _ => rfl
  | n + 1, h => by rw [nv, nv, nv_ext n (fun i hi => h i (by omega)), h n (by omega)]
theorem nv_split (r : Nat → Int) (a : Nat) : ∀ k, nv r (a + k) = nv r a + Bd ^ a * nv (sh r a) k
  | 0 => by simp [nv]
  | k + 1 => by
    rw [← Nat.add_assoc, nv, nv_split r a k, nv, Int.mul_add, Int.pow_add]
    show _ = _ + (_ + Bd ^ a * (r (a + k) * Bd ^ k))
    rw [Int.mul_left_comm (Bd ^ a)]; omega
theorem nv_zero {r : Nat → Int} : ∀ n, (∀ i, i < n → r i = 0) → nv r n = 0
  | 0, _ => rfl
  | n + 1, h => by rw [nv, nv_zero n (fun i hi => h i (by omega)), h n (by omega)]; simp
theorem nv_more {r : Nat → Int} (n m : Nat) (h : n ≤ m) (hz : ∀ i, n ≤ i → i < m → r i = 0) : nv r m = nv r n := by
  obtain ⟨k, rfl⟩ := Nat.exists_eq_add_of_le h
  have hz' : nv (sh r n) k = 0 := nv_zero k (fun i hi => hz _ (by omega) (by omega))
  rw [nv_split, hz']; simp
theorem nv_set (q : Nat → Int) (k : Nat) (d : Int) : ∀ n, k < n → q k = 0 → nv (fun i => if i = k then d else q i) n = nv q n + d * Bd ^ k
  | 0, h, _ => absurd h (by omega)
  | n + 1, h, h0 => by
    by_cases e : k = n
    · subst e
      have hx : nv (fun i => if i = k then d else q i) k = nv q k := nv_ext k (fun i hi => if_neg (by omega))
      rw [nv, nv, hx, h0]; simp
    · rw [nv, nv, nv_set q k d n (by omega) h0]
      simp only [if_neg (fun h' : n = k => e h'.symm)]; omega
theorem sh_u64 {r : Nat → Int} (h : ∀ i, U64 (r i)) (k : Nat) : ∀ i, U64 (sh r k i) := fun i => h (k + i)
/-- what is below a power has no parts from there on -/
theorem nv_top {r : Nat → Int} (h : ∀ i, U64 (r i)) (a k : Nat) (hl : nv r (a + k) < Bd ^ a) : nv (sh r a) k = 0 := by
  have h1 := (nv_range (sh_u64 h a) k).1
  have h2 := (nv_range h a).1
  rw [nv_split] at hl
  by_cases e : nv (sh r a) k = 0
  · exact e
  · have h3 : Bd ^ a * 1 ≤ Bd ^ a * nv (sh r a) k := Int.mul_le_mul_of_nonneg_left (by omega) (Int.le_of_lt (Bp a))
    omega
/-- a column of the division: behind it stand n + 1 parts, the divisor's number is D -/
structure Col (r : Nat → Int) (n a : Nat) (D : Int) : Prop where
  u : ∀ i, U64 (r i)
  d0 : 0 < D
  dn : D < Bd ^ n
  lt : nv r 9 < D * Bd ^ (a + 1)
  fits : a + n < 9
theorem Col.high {r : Nat → Int} {n a : Nat} {D : Int} (c : Col r n a D) : nv (sh r (a + n + 1)) (8 - a - n) = 0 := by
  have hf := c.fits
  refine nv_top c.u _ _ ?_
  rw [show a + n + 1 + (8 - a - n) = 9 by omega]
  refine Int.lt_of_lt_of_le c.lt ?_
  have := Int.mul_le_mul_of_nonneg_right (Int.le_of_lt c.dn) (Int.le_of_lt (Bp (a + 1)))
  rw [← Int.pow_add] at this
  rwa [show a + n + 1 = n + (a + 1) by omega]
theorem nv_three (r : Nat → Int) (n a : Nat) (h : a + n < 9) (hz : nv (sh r (a + n + 1)) (8 - a - n) = 0) : nv r 9 = nv r a + Bd ^ a * nv (sh r a) (n + 1) := by
  have h1 := nv_split r (a + n + 1) (8 - a - n)
  rw [show a + n + 1 + (8 - a - n) = 9 by omega, hz] at h1
  rw [h1, show a + n + 1 = a + (n + 1) by omega, nv_split]; simp
theorem Col.whole {r : Nat → Int} {n a : Nat} {D : Int} (c : Col r n a D) : nv r 9 = nv r a + Bd ^ a * nv (sh r a) (n + 1) := nv_three r n a c.fits c.high
theorem Col.below {r : Nat → Int} {n a : Nat} {D : Int} (c : Col r n a D) : 0 ≤ nv (sh r a) (n + 1) ∧ nv (sh r a) (n + 1) < D * Bd := by
  refine ⟨(nv_range (sh_u64 c.u a) _).1, ?_⟩
  have h1 := c.whole
  have h2 := c.lt
  have h3 := (nv_range c.u a).1
  rw [h1, Int.pow_succ, Int.mul_comm (Bd ^ a) Bd, ← Int.mul_assoc, Int.mul_comm (D * Bd) (Bd ^ a)] at h2
  exact Int.lt_of_mul_lt_mul_left (show Bd ^ a * nv (sh r a) (n + 1) < Bd ^ a * (D * Bd) by omega) (Int.le_of_lt (Bp a))
theorem Col.digit {r : Nat → Int} {n a : Nat} {D : Int} (c : Col r n a D) : 0 ≤ nv (sh r a) (n + 1) / D ∧ nv (sh r a) (n + 1) / D < Bd := by
  have h := c.below
  exact ⟨Int.ediv_nonneg h.1 (Int.le_of_lt c.d0), Int.ediv_lt_of_lt_mul c.d0 (by rw [Int.mul_comm]; exact h.2)⟩
/-- the guess: of the highest two parts by the divisor's highest -/
theorem Col.guess {r d : Nat → Int} {m a : Nat} {D : Int} (c : Col r (m + 1) a D) (hd : ∀ i, U64 (d i)) (hD : D = nv d (m + 1)) : nv (sh r a) (m + 1 + 1) / D * d m ≤ r (a + (m + 1)) * Bd + r (a + m) := by
  have h0 := c.digit.1
  have h1 : nv (sh r a) (m + 1 + 1) / D * D ≤ nv (sh r a) (m + 1 + 1) := Int.ediv_mul_le _ (by have := c.d0; omega)
  have h2 : d m * Bd ^ m ≤ D := by rw [hD, nv]; have := (nv_range hd m).1; omega
  have h3 := (nv_range (sh_u64 c.u a) m).2
  have h4 : nv (sh r a) (m + 1 + 1) = nv (sh r a) m + (r (a + m) + r (a + (m + 1)) * Bd) * Bd ^ m := by
    rw [nv, nv, Int.pow_succ, Int.add_mul, Int.mul_comm (Bd ^ m) Bd, ← Int.mul_assoc]
    show _ + r (a + m) * _ + r (a + (m + 1)) * _ * _ = _
    omega
  generalize nv (sh r a) (m + 1 + 1) / D = k at h0 h1
  have h5 : k * (d m * Bd ^ m) ≤ k * D := Int.mul_le_mul_of_nonneg_left h2 h0
  rw [h4] at h1
  have h6 : Bd ^ m * (k * d m) < Bd ^ m * (r (a + (m + 1)) * Bd + r (a + m) + 1) := by
    rw [Int.mul_add, Int.mul_one, Int.mul_comm (Bd ^ m) (k * d m), Int.mul_assoc, Int.mul_comm (Bd ^ m), Int.add_comm (r (a + (m + 1)) * Bd)]; omega
  have h7 := Int.lt_of_mul_lt_mul_left h6 (Int.le_of_lt (Bp m))
  omega
/-- what is taken off, and what is left: so long as it is there -/
structure Off (r d : Nat → Int) (n a : Nat) (k : Int) (s : Nat → Int) (b : Bool) : Prop where
  u : ∀ i, U64 (s i)
  same : ∀ i, i < a ∨ a + n < i → s i = r i
  yes : b = true → nv (sh r a) (n + 1) = nv (sh s a) (n + 1) + k * nv d n
  no : b = false → nv (sh r a) (n + 1) < k * nv d n
theorem Off.stop {r d s : Nat → Int} {n a : Nat} {k D : Int} (h : Off r d n a k s true) (c : Col r n a D) (hD : D = nv d n) (hk : nv (sh r a) (n + 1) / D ≤ k) : k = nv (sh r a) (n + 1) / D := by
  have h1 := h.yes rfl
  have h2 := (nv_range (sh_u64 h.u a) (n + 1)).1
  rw [← hD] at h1
  have : k ≤ nv (sh r a) (n + 1) / D := Int.le_ediv_of_mul_le c.d0 (by omega)
  omega
theorem Off.down {r d s : Nat → Int} {n a : Nat} {k D : Int} (h : Off r d n a k s false) (c : Col r n a D) (hD : D = nv d n) : nv (sh r a) (n + 1) / D ≤ k - 1 := by
  have h1 := h.no rfl
  rw [← hD] at h1
  have := Int.ediv_lt_of_lt_mul c.d0 h1
  omega
theorem Off.left {r d s : Nat → Int} {n a : Nat} {k D : Int} (h : Off r d n a k s true) (c : Col r n a D) (hD : D = nv d n) (hk : k = nv (sh r a) (n + 1) / D) : nv r 9 = nv s 9 + k * (D * Bd ^ a) ∧ nv s 9 < D * Bd ^ a := by
  have h1 := h.yes rfl
  have hf := c.fits
  have e1 := c.whole
  have hz : nv (sh s (a + n + 1)) (8 - a - n) = 0 := by
    rw [← c.high]; exact nv_ext _ (fun i _ => h.same _ (Or.inr (by omega)))
  have e2 := nv_three s n a hf hz
  have e3 : nv s a = nv r a := nv_ext a (fun i hi => h.same _ (Or.inl hi))
  rw [← hD] at h1
  have h2 : nv (sh s a) (n + 1) = nv (sh r a) (n + 1) % D := by
    have := Int.mul_ediv_add_emod (nv (sh r a) (n + 1)) D
    rw [← hk, Int.mul_comm D k] at this
    omega
  have h3 : nv (sh s a) (n + 1) + 1 ≤ D := by have := Int.emod_lt_of_pos (nv (sh r a) (n + 1)) c.d0; omega
  have h4 := (nv_range c.u a).2
  have h5 := Int.mul_le_mul_of_nonneg_left h3 (Int.le_of_lt (Bp a))
  rw [Int.mul_add, Int.mul_one] at h5
  refine ⟨?_, ?_⟩
  · rw [e1, e2, e3, h1, Int.mul_add, ← Int.mul_assoc k D, Int.mul_comm (k * D) (Bd ^ a)]; omega
  · rw [e2, e3, Int.mul_comm D]; omega
theorem Col.none {r : Nat → Int} {n a : Nat} {D : Int} (c : Col r n a D) (hk : nv (sh r a) (n + 1) / D = 0) : nv r 9 < D * Bd ^ a := by
  have e1 := c.whole
  have h2 : nv (sh r a) (n + 1) + 1 ≤ D := by
    have h3 := Int.mul_ediv_add_emod (nv (sh r a) (n + 1)) D
    have := Int.emod_lt_of_pos (nv (sh r a) (n + 1)) c.d0
    rw [hk, Int.mul_zero] at h3; omega
  have h4 := (nv_range c.u a).2
  have h5 := Int.mul_le_mul_of_nonneg_left h2 (Int.le_of_lt (Bp a))
  rw [Int.mul_add, Int.mul_one] at h5
  rw [e1, Int.mul_comm D]; omega
/-- one part of taking off -/
theorem off_step {r0 r d : Nat → Int} {a i : Nat} {k c b c' b' p s : Int} (h : nv (sh r0 a) i + (b + c) * Bd ^ i = nv (sh r a) i + k * nv d i) (e1 : d i * k + c = c' * Bd + p) (e2 : r0 (a + i) - p - b = s - Bd * b') :
    nv (sh r0 a) (i + 1) + (b' + c') * Bd ^ (i + 1) = nv (sh (fun j => if j = a + i then s else r j) a) (i + 1) + k * nv d (i + 1) := by
  have hx : nv (sh (fun j => if j = a + i then s else r j) a) i = nv (sh r a) i := nv_ext i (fun j hj => by simp only [sh]; rw [if_neg (by omega)])
  have hy : sh (fun j => if j = a + i then s else r j) a i = s := by simp [sh]
  rw [nv, nv, nv, hx, hy, Int.mul_add, ← Int.mul_assoc k, Int.pow_succ]
  show _ + r0 (a + i) * _ + _ = _
  have e3 : r0 (a + i) * Bd ^ i + (b' + c') * (Bd ^ i * Bd) = (s + k * d i + (b + c)) * Bd ^ i := by
    rw [Int.mul_comm (Bd ^ i) Bd, ← Int.mul_assoc, ← Int.add_mul]
    congr 1
    rw [Int.add_mul, Int.mul_comm k (d i), Int.mul_comm b' Bd]
    omega
  have e4 : (s + k * d i + (b + c)) * Bd ^ i = s * Bd ^ i + k * d i * Bd ^ i + (b + c) * Bd ^ i := by rw [Int.add_mul, Int.add_mul]
  rw [e4] at e3
  omega
theorem Off.of {r0 s d : Nat → Int} {a n : Nat} {k b : Int} (hu : ∀ i, U64 (s i)) (hs : ∀ i, i < a ∨ a + n < i → s i = r0 i) (h : nv (sh r0 a) (n + 1) + b * Bd ^ (n + 1) = nv (sh s a) (n + 1) + k * nv d n) (hb0 : 0 ≤ b) (hb1 : b ≤ 1) : Off r0 d n a k s (b == 0) := by
  have h1 := nv_range (sh_u64 hu a) (n + 1)
  refine ⟨hu, hs, fun e => ?_, fun e => ?_⟩
  · have : b = 0 := by simpa using e
    rw [this, Int.zero_mul] at h; omega
  · have : b = 1 := by have : ¬ b = 0 := by simpa using e
                       omega
    rw [this, Int.one_mul] at h; omega
/-- the start of the division -/
theorem div_start {u v : Nat → Int} {n m k : Nat} {P : Int} (hu : ∀ i, U64 (u i)) (hv : ∀ i, U64 (v i)) (hP : 0 < P) (hn : v n ≠ 0) (hm : m ≤ 8) (hz : ∀ i, m ≤ i → i < 8 → u i = 0) (hk : m ≤ n + k) : nv u 8 * P < nv v (n + 1) * P * Bd ^ k := by
  have h1 : nv u 8 < Bd ^ m := by rw [nv_more m 8 hm hz]; exact (nv_range hu m).2
  have h2 : Bd ^ n ≤ nv v (n + 1) := by
    rw [nv]
    have h3 := (nv_range hv n).1
    have h4 := Int.mul_le_mul_of_nonneg_right (show 1 ≤ v n by have := (hv n).1; omega) (Int.le_of_lt (Bp n))
    rw [Int.one_mul] at h4; omega
  have h5 : Bd ^ m ≤ Bd ^ n * Bd ^ k := by
    rw [← Int.pow_add]
    obtain ⟨j, hj⟩ := Nat.exists_eq_add_of_le hk
    rw [hj, Int.pow_add]
    have := Int.mul_le_mul_of_nonneg_left (show 1 ≤ Bd ^ j by have := Bp j; omega) (Int.le_of_lt (Bp m))
    omega
  have h6 := Int.mul_le_mul_of_nonneg_right h2 (Int.le_of_lt (Bp k))
  have h7 := Int.mul_lt_mul_of_pos_right (show nv u 8 < nv v (n + 1) * Bd ^ k by omega) hP
  rw [Int.mul_assoc, Int.mul_comm P, ← Int.mul_assoc]; exact h7
end Go.Proofs.YtpadpmkfhljiiaaGreat
/- Rows of 8 and of 9 numbers in a block: that they lie there and may be written; loads, stores, new blocks. -/
namespace Go.Proofs.YtpadpmkfhljiiaaGreat
open Go.RowKit
/-- the first n cells of block b are the numbers v, and may be written -/
def Row (w : World) (b n : Nat) (v : Nat → Int) : Prop := ∀ i, i < n → w.cell? ⟨b, i, none⟩ = some (.int .u64 (v i)) ∧ w.frozen? ⟨b, i, none⟩ = false
def rowL (n : Nat) (v : Nat → Int) : List Value := (List.range n).map fun i => .int .u64 (v i)
theorem rowL_len (n : Nat) (v : Nat → Int) : (rowL n v).length = n := by simp [rowL]
theorem rowL_at (n : Nat) (v : Nat → Int) (i : Nat) (h : i < n) : (rowL n v)[i]? = some (.int .u64 (v i)) := by simp [rowL, h]
theorem Row.lt {w : World} {b n : Nat} {v : Nat → Int} (h : Row w b n v) (hn : 0 < n) : b < w.heap.size := World.block_lt_of_cell? w _ (h 0 hn).1
theorem Row.below {w w' : World} {B b n : Nat} {v : Nat → Int} (h : Row w b n v) (k : Below B w w') (hb : b < B) : Row w' b n v := fun i hi =>
  ⟨(k.cell (p := ⟨b, i, none⟩) hb).trans (h i hi).1, (k.frozen (p := ⟨b, i, none⟩) hb).trans (h i hi).2⟩
theorem Row.drew {w : World} {b n : Nat} {v : Nat → Int} (h : Row w b n v) : Row w.drew b n v := fun i hi => by simpa using h i hi
theorem Row.alloc {w : World} {b n : Nat} {v : Nat → Int} (h : Row w b n v) (o : Obj) : Row (w.alloc o) b n v := fun i hi => by
  have hb := World.block_lt_of_cell? w _ (h i hi).1
  exact ⟨by rw [World.cell?_alloc_lt _ _ _ hb]; exact (h i hi).1, by rw [World.frozen?_alloc_past _ _ _ hb]; exact (h i hi).2⟩
theorem Row.set_other {w : World} {b n : Nat} {v : Nat → Int} (h : Row w b n v) (p : Addr) (x : Value) (hp : p.block ≠ b) : Row (w.setCell p x) b n v := fun i hi =>
  ⟨by rw [World.cell?_setCell_other _ _ _ _ (by intro e; subst e; exact hp rfl)]; exact (h i hi).1, by rw [World.frozen?_setCell]; exact (h i hi).2⟩
theorem Row.set {w : World} {b n : Nat} {v : Nat → Int} (h : Row w b n v) (k : Nat) (x : Int) : Row (w.setCell ⟨b, k, none⟩ (.int .u64 x)) b n (fun i => if i = k then x else v i) := fun i hi => by
  refine ⟨?_, by rw [World.frozen?_setCell]; exact (h i hi).2⟩
  dsimp only
  by_cases e : i = k
  · subst e; rw [World.cell?_setCell_same _ _ _ (h i hi).1, if_pos rfl]
  · rw [World.cell?_setCell_other _ _ _ _ (by intro e'; injection e' with _ e' _; exact e e'.symm), if_neg e]; exact (h i hi).1
theorem Row.new (w : World) (t : TypeId) (n : Nat) (v : Nat → Int) : Row (w.alloc (.cells (rowL n v).toArray t)) w.heap.size n v := fun i hi => by
  rw [World.cell?_alloc_at _ _ _ _ rfl]
  exact ⟨by simp [rowL, hi], by simp [World.frozen?_alloc_at]⟩
theorem Row.range {w : World} {b n : Nat} {v : Nat → Int} (h : Row w b n v) : w.rangeAt b 0 (rowL n v) := fun j x hx => by
  have hj : j < n := by have := (List.getElem?_eq_some_iff.1 hx).1; rwa [rowL_len] at this
  rw [rowL_at n v j hj] at hx; rw [Nat.zero_add, ← hx]; exact (h j hj).1
theorem Row.there {w : World} {b n : Nat} {v : Nat → Int} (h : Row w b n v) : w.there b 0 n := fun j hj => by
  rw [Nat.zero_add, (h j hj).1]; exact ⟨rfl, (h j hj).2⟩
theorem Row.set_others {b n c : Nat} {v : Nat → Int} (hc : c ≠ b) : ∀ (vs : List Value) (o : Nat) {w : World}, Row w b n v → Row (w.setCells c o vs) b n v
  | [], _, _, h => h
  | x :: r, o, w, h => by rw [World.setCells]; exact Row.set_others hc r (o + 1) (h.set_other _ _ hc)
theorem Box.set_others {b c : Nat} {a0 a1 a2 a3 : Int} (hc : c ≠ b) : ∀ (vs : List Value) (o : Nat) {w : World}, Box w b a0 a1 a2 a3 → Box (w.setCells c o vs) b a0 a1 a2 a3
  | [], _, _, h => h
  | x :: r, o, w, h => by rw [World.setCells]; exact Box.set_others hc r (o + 1) (h.other _ _ hc)
theorem below_setCells {B : Nat} {a : World} (b : Nat) (hb : B ≤ b) : ∀ (vs : List Value) (o : Nat) (w : World), Below B a w → Below B a (w.setCells b o vs)
  | [], _, _, h => h
  | v :: r, o, w, h => by rw [World.setCells]; exact below_setCells b hb r (o + 1) _ (h.setCell hb v)
theorem Box.row {w : World} {b : Nat} {a0 a1 a2 a3 : Int} (h : Box w b a0 a1 a2 a3) (i : Nat) (hi : i < 4) : w.cell? ⟨b, i, none⟩ = some (.int .u64 (limb a0 a1 a2 a3 i)) := h.1 i hi
end Go.Proofs.YtpadpmkfhljiiaaGreat
/- A law's own boxes: words in blocks of the law's own, all old memory as it was. -/
namespace Go.Proofs.YtpadpmkfhljiiaaGreat
open Go.RowKit
structure Bx (w : World) (l : List (Nat × Int × Int × Int × Int)) (W : World) : Prop where
  bel : Below w.heap.size w W
  low : ∀ p ∈ l, w.heap.size ≤ p.1
  box : ∀ p ∈ l, Box W p.1 p.2.1 p.2.2.1 p.2.2.2.1 p.2.2.2.2
theorem Bx.past {w W W' : World} {l : List (Nat × Int × Int × Int × Int)} (h : Bx w l W) (k : Below W.heap.size W W') : Bx w l W' :=
  ⟨h.bel.trans (k.mono h.bel.size), h.low, fun p hp => (h.box p hp).below k (h.box p hp).lt⟩
theorem Bx.drew {w W : World} {l : List (Nat × Int × Int × Int × Int)} (h : Bx w l W) : Bx w l W.drew := ⟨h.bel.drew, h.low, fun p hp => (h.box p hp).drew⟩
theorem Bx.start (w : World) : Bx w [] w := ⟨Below.refl _ _, (fun _ h => by cases h), (fun _ h => by cases h)⟩
theorem Bx.alloc {w W : World} {l : List (Nat × Int × Int × Int × Int)} (h : Bx w l W) (a0 a1 a2 a3 : Int) : Bx w ((W.heap.size, a0, a1, a2, a3) :: l) (W.alloc (.cells #[.int .u64 a0, .int .u64 a1, .int .u64 a2, .int .u64 a3] 24)) := by
  refine ⟨h.bel.alloc h.bel.size _, fun p hp => ?_, fun p hp => ?_⟩
  · rcases List.mem_cons.1 hp with rfl | hp
    · exact h.bel.size
    · exact h.low p hp
  · rcases List.mem_cons.1 hp with rfl | hp
    · exact Box.new W 24 a0 a1 a2 a3
    · exact (h.box p hp).alloc _
theorem Bx.put {w W : World} {l : List (Nat × Int × Int × Int × Int)} {b : Nat} {s0 s1 s2 s3 : Int} (h : Bx w ((b, s0, s1, s2, s3) :: l) W) (hn : ∀ p ∈ l, p.1 ≠ b) (a0 a1 a2 a3 : Int) : Bx w ((b, a0, a1, a2, a3) :: l) (put4 W b a0 a1 a2 a3) := by
  have hb : w.heap.size ≤ b := h.low _ mm0
  refine ⟨below_put h.bel hb _ _ _ _, fun p hp => ?_, fun p hp => ?_⟩
  · rcases List.mem_cons.1 hp with rfl | hp
    · exact hb
    · exact h.low p (List.Mem.tail _ hp)
  · rcases List.mem_cons.1 hp with rfl | hp
    · exact (h.box _ mm0).put a0 a1 a2 a3
    · exact (h.box p (List.Mem.tail _ hp)).put_other (fun e => hn p hp e.symm) _ _ _ _
theorem Bx.lt {w W : World} {l : List (Nat × Int × Int × Int × Int)} (h : Bx w l W) (p : Nat × Int × Int × Int × Int) (hp : p ∈ l) : p.1 < W.heap.size := (h.box p hp).lt
theorem Bx.f0 {w W : World} {b : Nat} {a0 a1 a2 a3 : Int} {l : List (Nat × Int × Int × Int × Int)} (h : Bx w l W) (hp : (b, a0, a1, a2, a3) ∈ l) : W.cell? ⟨b, 0, none⟩ = some (.int .u64 a0) ∧ W.cell? ⟨b, 1, none⟩ = some (.int .u64 a1) ∧ W.cell? ⟨b, 2, none⟩ = some (.int .u64 a2) ∧ W.cell? ⟨b, 3, none⟩ = some (.int .u64 a3) ∧
    W.frozen? ⟨b, 0, none⟩ = false ∧ W.frozen? ⟨b, 1, none⟩ = false ∧ W.frozen? ⟨b, 2, none⟩ = false ∧ W.frozen? ⟨b, 3, none⟩ = false := Box.facts (h.box _ hp)
theorem op16 {q0 q1 q2 q3 q4 q5 q6 q7 q8 q9 q10 q11 q12 q13 q14 q15 x : Oper} {r : List Oper} : (q0 :: q1 :: q2 :: q3 :: q4 :: q5 :: q6 :: q7 :: q8 :: q9 :: q10 :: q11 :: q12 :: q13 :: q14 :: q15 :: x :: r).toArray[16]? = some x := rfl
theorem op17 {q0 q1 q2 q3 q4 q5 q6 q7 q8 q9 q10 q11 q12 q13 q14 q15 q16 x : Oper} {r : List Oper} : (q0 :: q1 :: q2 :: q3 :: q4 :: q5 :: q6 :: q7 :: q8 :: q9 :: q10 :: q11 :: q12 :: q13 :: q14 :: q15 :: q16 :: x :: r).toArray[17]? = some x := rfl
theorem op18 {q0 q1 q2 q3 q4 q5 q6 q7 q8 q9 q10 q11 q12 q13 q14 q15 q16 q17 x : Oper} {r : List Oper} : (q0 :: q1 :: q2 :: q3 :: q4 :: q5 :: q6 :: q7 :: q8 :: q9 :: q10 :: q11 :: q12 :: q13 :: q14 :: q15 :: q16 :: q17 :: x :: r).toArray[18]? = some x := rfl
theorem op19 {q0 q1 q2 q3 q4 q5 q6 q7 q8 q9 q10 q11 q12 q13 q14 q15 q16 q17 q18 x : Oper} {r : List Oper} : (q0 :: q1 :: q2 :: q3 :: q4 :: q5 :: q6 :: q7 :: q8 :: q9 :: q10 :: q11 :: q12 :: q13 :: q14 :: q15 :: q16 :: q17 :: q18 :: x :: r).toArray[19]? = some x := rfl
theorem op20 {q0 q1 q2 q3 q4 q5 q6 q7 q8 q9 q10 q11 q12 q13 q14 q15 q16 q17 q18 q19 x : Oper} {r : List Oper} : (q0 :: q1 :: q2 :: q3 :: q4 :: q5 :: q6 :: q7 :: q8 :: q9 :: q10 :: q11 :: q12 :: q13 :: q14 :: q15 :: q16 :: q17 :: q18 :: q19 :: x :: r).toArray[20]? = some x := rfl
theorem op21 {q0 q1 q2 q3 q4 q5 q6 q7 q8 q9 q10 q11 q12 q13 q14 q15 q16 q17 q18 q19 q20 x : Oper} {r : List Oper} : (q0 :: q1 :: q2 :: q3 :: q4 :: q5 :: q6 :: q7 :: q8 :: q9 :: q10 :: q11 :: q12 :: q13 :: q14 :: q15 :: q16 :: q17 :: q18 :: q19 :: q20 :: x :: r).toArray[21]? = some x := rfl
theorem op22 {q0 q1 q2 q3 q4 q5 q6 q7 q8 q9 q10 q11 q12 q13 q14 q15 q16 q17 q18 q19 q20 q21 x : Oper} {r : List Oper} : (q0 :: q1 :: q2 :: q3 :: q4 :: q5 :: q6 :: q7 :: q8 :: q9 :: q10 :: q11 :: q12 :: q13 :: q14 :: q15 :: q16 :: q17 :: q18 :: q19 :: q20 :: q21 :: x :: r).toArray[22]? = some x := rfl
theorem op23 {q0 q1 q2 q3 q4 q5 q6 q7 q8 q9 q10 q11 q12 q13 q14 q15 q16 q17 q18 q19 q20 q21 q22 x : Oper} {r : List Oper} : (q0 :: q1 :: q2 :: q3 :: q4 :: q5 :: q6 :: q7 :: q8 :: q9 :: q10 :: q11 :: q12 :: q13 :: q14 :: q15 :: q16 :: q17 :: q18 :: q19 :: q20 :: q21 :: q22 :: x :: r).toArray[23]? = some x := rfl
theorem op24 {q0 q1 q2 q3 q4 q5 q6 q7 q8 q9 q10 q11 q12 q13 q14 q15 q16 q17 q18 q19 q20 q21 q22 q23 x : Oper} {r : List Oper} : (q0 :: q1 :: q2 :: q3 :: q4 :: q5 :: q6 :: q7 :: q8 :: q9 :: q10 :: q11 :: q12 :: q13 :: q14 :: q15 :: q16 :: q17 :: q18 :: q19 :: q20 :: q21 :: q22 :: q23 :: x :: r).toArray[24]? = some x := rfl
theorem op25 {q0 q1 q2 q3 q4 q5 q6 q7 q8 q9 q10 q11 q12 q13 q14 q15 q16 q17 q18 q19 q20 q21 q22 q23 q24 x : Oper} {r : List Oper} : (q0 :: q1 :: q2 :: q3 :: q4 :: q5 :: q6 :: q7 :: q8 :: q9 :: q10 :: q11 :: q12 :: q13 :: q14 :: q15 :: q16 :: q17 :: q18 :: q19 :: q20 :: q21 :: q22 :: q23 :: q24 :: x :: r).toArray[25]? = some x := rfl
end Go.Proofs.YtpadpmkfhljiiaaGreat
/- word.shorten: the quotient by a base, and the lowest digit. -/
namespace Go.Proofs.YtpadpmkfhljiiaaGreat
open Go.RowKit
theorem q_lt {r A B : Nat} (hr : r < B) (hA : A < 18446744073709551616) : (r * 18446744073709551616 + A) / B < 18446744073709551616 := by
  rw [Nat.div_lt_iff_lt_mul (by omega)]
  have h : (r + 1) * 18446744073709551616 ≤ B * 18446744073709551616 := Nat.mul_le_mul_right _ hr
  rw [Nat.mul_comm B] at h
  omega
theorem short_num {A0 A1 A2 A3 B q0 q1 q2 q3 r0 r1 r2 r3 : Nat} (h3 : B * q3 + r3 = A3) (h2 : B * q2 + r2 = r3 * 18446744073709551616 + A2) (h1 : B * q1 + r1 = r2 * 18446744073709551616 + A1) (h0 : B * q0 + r0 = r1 * 18446744073709551616 + A0) (hr : r0 < B) :
    (A0 + 18446744073709551616 * (A1 + 18446744073709551616 * (A2 + 18446744073709551616 * A3))) / B = q0 + 18446744073709551616 * (q1 + 18446744073709551616 * (q2 + 18446744073709551616 * q3)) ∧ (A0 + 18446744073709551616 * (A1 + 18446744073709551616 * (A2 + 18446744073709551616 * A3))) % B = r0 := by
  have e : A0 + 18446744073709551616 * (A1 + 18446744073709551616 * (A2 + 18446744073709551616 * A3)) = r0 + B * (q0 + 18446744073709551616 * (q1 + 18446744073709551616 * (q2 + 18446744073709551616 * q3))) := by
    simp only [Nat.mul_add, Nat.mul_left_comm B]
    omega
  rw [e]
  exact ⟨by rw [Nat.add_mul_div_left _ _ (by omega), Nat.div_eq_of_lt hr, Nat.zero_add], by rw [Nat.add_mul_mod_self_left, Nat.mod_eq_of_lt hr]⟩
theorem four_cases (i : Nat) (h : i < 4) : i = 0 ∨ i = 1 ∨ i = 2 ∨ i = 3 := by omega
theorem Box.upd {W : World} {b : Nat} {a0 a1 a2 a3 c0 c1 c2 c3 : Int} (h : Box W b a0 a1 a2 a3) (k : Nat) (y : Int) (hk : k < 4) (he : ∀ i, i < 4 → limb c0 c1 c2 c3 i = if i = k then y else limb a0 a1 a2 a3 i) : Box (W.setCell ⟨b, k, none⟩ (.int .u64 y)) b c0 c1 c2 c3 := by
  refine ⟨fun i hi => ?_, fun i hi => by rw [World.frozen?_setCell]; exact h.2 i hi⟩
  rw [he i hi]
  by_cases e : i = k
  · subst e; rw [World.cell?_setCell_same _ _ _ (h.1 i hi), if_pos rfl]
  · rw [World.cell?_setCell_other _ _ _ _ (by intro e'; injection e' with _ e' _; exact e e'.symm), if_neg e]; exact h.1 i hi
theorem Bx.upd {w W : World} {r b : Nat} {a0 a1 a2 a3 c0 c1 c2 c3 : Int} (h : Bx w [(r, 0, 0, 0, 0), (b, a0, a1, a2, a3)] W) (hr : r ≠ b) (k : Nat) (y : Int) (hk : k < 4) (he : ∀ i, i < 4 → limb c0 c1 c2 c3 i = if i = k then y else limb a0 a1 a2 a3 i) : Bx w [(r, 0, 0, 0, 0), (b, c0, c1, c2, c3)] (W.setCell ⟨b, k, none⟩ (.int .u64 y)) := by
  have hb := h.low (b, a0, a1, a2, a3) mm1
  refine ⟨h.bel.setCell hb _, fun p hp => ?_, fun p hp => ?_⟩
  · simp only [List.mem_cons, List.not_mem_nil, or_false] at hp
    rcases hp with rfl | rfl
    · exact h.low (r, 0, 0, 0, 0) mm0
    · exact hb
  · simp only [List.mem_cons, List.not_mem_nil, or_false] at hp
    rcases hp with rfl | rfl
    · exact (h.box (r, 0, 0, 0, 0) mm0).other _ _ (fun e => hr e.symm)
    · exact (h.box (b, a0, a1, a2, a3) mm1).upd k y hk he
set_option maxHeartbeats 4000000 in
set_option maxRecDepth 100000 in
theorem shorten_is (A0 A1 A2 A3 B : Nat) (l0 : A0 < 18446744073709551616) (l1 : A1 < 18446744073709551616) (l2 : A2 < 18446744073709551616) (l3 : A3 < 18446744073709551616) (hB : 1 < B) (hB2 : B < 18446744073709551616) :
    ∃ q0 q1 q2 q3 r : Nat, (q0 < 18446744073709551616 ∧ q1 < 18446744073709551616 ∧ q2 < 18446744073709551616 ∧ q3 < 18446744073709551616) ∧
      (A0 + 18446744073709551616 * (A1 + 18446744073709551616 * (A2 + 18446744073709551616 * A3))) / B = q0 + 18446744073709551616 * (q1 + 18446744073709551616 * (q2 + 18446744073709551616 * q3)) ∧ (A0 + 18446744073709551616 * (A1 + 18446744073709551616 * (A2 + 18446744073709551616 * A3))) % B = r ∧
      ∀ w : World, Calls Tryz.prog 174 #[.agg #[.int .u64 (A0 : Int), .int .u64 (A1 : Int), .int .u64 (A2 : Int), .int .u64 (A3 : Int)], .int .u64 (B : Int)] w fun e w' => e = .returned (.tuple #[.agg #[.int .u64 (q0 : Int), .int .u64 (q1 : Int), .int .u64 (q2 : Int), .int .u64 (q3 : Int)], .int .u64 (r : Int)]) ∧ Below w.heap.size w w' := by
  obtain ⟨q3, e3⟩ : ∃ q, q = (0 * 18446744073709551616 + A3) / B := ⟨_, rfl⟩
  obtain ⟨r3, f3⟩ : ∃ r, r = (0 * 18446744073709551616 + A3) % B := ⟨_, rfl⟩
  obtain ⟨q2, e2⟩ : ∃ q, q = (r3 * 18446744073709551616 + A2) / B := ⟨_, rfl⟩
  obtain ⟨r2, f2⟩ : ∃ r, r = (r3 * 18446744073709551616 + A2) % B := ⟨_, rfl⟩
  obtain ⟨q1, e1⟩ : ∃ q, q = (r2 * 18446744073709551616 + A1) / B := ⟨_, rfl⟩
  obtain ⟨r1, f1⟩ : ∃ r, r = (r2 * 18446744073709551616 + A1) % B := ⟨_, rfl⟩
  obtain ⟨q0, e0⟩ : ∃ q, q = (r1 * 18446744073709551616 + A0) / B := ⟨_, rfl⟩
  obtain ⟨r0, f0⟩ : ∃ r, r = (r1 * 18446744073709551616 + A0) % B := ⟨_, rfl⟩
  have g3 : r3 < B := by rw [f3]; exact Nat.mod_lt _ (by omega)
  have g2 : r2 < B := by rw [f2]; exact Nat.mod_lt _ (by omega)
  have g1 : r1 < B := by rw [f1]; exact Nat.mod_lt _ (by omega)
  have g0 : r0 < B := by rw [f0]; exact Nat.mod_lt _ (by omega)
  have nums := short_num (A0 := A0) (A1 := A1) (A2 := A2) (A3 := A3) (B := B) (q0 := q0) (q1 := q1) (q2 := q2) (q3 := q3) (r0 := r0) (r1 := r1) (r2 := r2) (r3 := r3) (by rw [e3, f3, Nat.zero_mul, Nat.zero_add]; exact Nat.div_add_mod _ _) (by rw [e2, f2]; exact Nat.div_add_mod _ _) (by rw [e1, f1]; exact Nat.div_add_mod _ _) (by rw [e0, f0]; exact Nat.div_add_mod _ _) g0
  refine ⟨q0, q1, q2, q3, r0, ⟨by rw [e0]; exact q_lt g1 l0, by rw [e1]; exact q_lt g2 l1, by rw [e2]; exact q_lt g3 l2, by rw [e3]; exact q_lt (by omega) l3⟩, nums.1, nums.2, fun w => ?_⟩
  have D3 : Hid (∀ W : World, Calls Tryz.prog 177 #[.int .u64 (0 : Int), .int .u64 (A3 : Int), .int .u64 (B : Int)] W fun e w' => e = .returned (.tuple #[.int .u64 (q3 : Int), .int .u64 (r3 : Int)]) ∧ Below W.heap.size W w') := fun W => div64_is 0 A3 B q3 r3 hB2 (by omega) l3 e3 f3 W
  have D2 : Hid (∀ W : World, Calls Tryz.prog 177 #[.int .u64 (r3 : Int), .int .u64 (A2 : Int), .int .u64 (B : Int)] W fun e w' => e = .returned (.tuple #[.int .u64 (q2 : Int), .int .u64 (r2 : Int)]) ∧ Below W.heap.size W w') := fun W => div64_is r3 A2 B q2 r2 hB2 g3 l2 e2 f2 W
  have D1 : Hid (∀ W : World, Calls Tryz.prog 177 #[.int .u64 (r2 : Int), .int .u64 (A1 : Int), .int .u64 (B : Int)] W fun e w' => e = .returned (.tuple #[.int .u64 (q1 : Int), .int .u64 (r1 : Int)]) ∧ Below W.heap.size W w') := fun W => div64_is r2 A1 B q1 r1 hB2 g2 l1 e1 f1 W
  have D0 : Hid (∀ W : World, Calls Tryz.prog 177 #[.int .u64 (r1 : Int), .int .u64 (A0 : Int), .int .u64 (B : Int)] W fun e w' => e = .returned (.tuple #[.int .u64 (q0 : Int), .int .u64 (r0 : Int)]) ∧ Below W.heap.size W w') := fun W => div64_is r1 A0 B q0 r0 hB2 g1 l0 e0 f0 W
  clear e0 e1 e2 e3 f0 f1 f2 f3 g0 g1 g2 g3 nums l0 l1 l2 l3 hB hB2
  have K4 : Hid (Bx w [(w.heap.size + 1, 0, 0, 0, 0), (w.heap.size, (A0 : Int), (A1 : Int), (A2 : Int), (A3 : Int))] ((w.alloc (.cells #[.int .u64 (A0 : Int), .int .u64 (A1 : Int), .int .u64 (A2 : Int), .int .u64 (A3 : Int)] 24)).alloc (.cells #[.int .u64 0, .int .u64 0, .int .u64 0, .int .u64 0] 24))) := by
    have h := ((Bx.start w).alloc (A0 : Int) (A1 : Int) (A2 : Int) (A3 : Int)).alloc 0 0 0 0
    (try simp only [World.size_alloc] at h)
    exact h
  go_enter Tryz.func174, Tryz.ntmps174
  go_upto_region 1 with fail
  generalize (w.alloc (.cells #[.int .u64 (A0 : Int), .int .u64 (A1 : Int), .int .u64 (A2 : Int), .int .u64 (A3 : Int)] 24)).alloc (.cells #[.int .u64 0, .int .u64 0, .int .u64 0, .int .u64 0] 24) = v4 at K4 ⊢
  go_wp2
  refine wp_loop_rounds 5 ?_
  obtain ⟨c0, c1, c2, c3, z0, z1, z2, z3⟩ := K4.out.f0 mm1
  rw [rounds_succ]
  go_wp2_with (go_at_call 177; refine (D3.out _).mono ?_; rintro e y3 ⟨rfl, hB⟩; (have J3 : Hid (Bx w [(w.heap.size + 1, 0, 0, 0, 0), (w.heap.size, (A0 : Int), (A1 : Int), (A2 : Int), (A3 : Int))] y3) := K4.out.past hB); clear hB K4 c0 c1 c2 c3 z0 z1 z2 z3; obtain ⟨c0, c1, c2, c3, z0, z1, z2, z3⟩ := J3.out.f0 mm1)
  have K3 : Hid (Bx w [(w.heap.size + 1, 0, 0, 0, 0), (w.heap.size, (A0 : Int), (A1 : Int), (A2 : Int), (q3 : Int))] (y3.setCell ⟨w.heap.size, 3, none⟩ (.int .u64 (q3 : Int)))) := J3.out.upd (by omega) 3 _ (by omega) (fun i hi => by rcases four_cases i hi with rfl | rfl | rfl | rfl <;> rfl)
  clear J3 c0 c1 c2 c3 z0 z1 z2 z3
  generalize y3.setCell ⟨w.heap.size, 3, none⟩ (.int .u64 (q3 : Int)) = v3 at K3 ⊢
  obtain ⟨c0, c1, c2, c3, z0, z1, z2, z3⟩ := K3.out.f0 mm1
  rw [rounds_succ]
  go_wp2_with (go_at_call 177; refine (D2.out _).mono ?_; rintro e y2 ⟨rfl, hB⟩; (have J2 : Hid (Bx w [(w.heap.size + 1, 0, 0, 0, 0), (w.heap.size, (A0 : Int), (A1 : Int), (A2 : Int), (q3 : Int))] y2) := K3.out.past hB); clear hB K3 c0 c1 c2 c3 z0 z1 z2 z3; obtain ⟨c0, c1, c2, c3, z0, z1, z2, z3⟩ := J2.out.f0 mm1)
  have K2 : Hid (Bx w [(w.heap.size + 1, 0, 0, 0, 0), (w.heap.size, (A0 : Int), (A1 : Int), (q2 : Int), (q3 : Int))] (y2.setCell ⟨w.heap.size, 2, none⟩ (.int .u64 (q2 : Int)))) := J2.out.upd (by omega) 2 _ (by omega) (fun i hi => by rcases four_cases i hi with rfl | rfl | rfl | rfl <;> rfl)
  clear J2 c0 c1 c2 c3 z0 z1 z2 z3
  generalize y2.setCell ⟨w.heap.size, 2, none⟩ (.int .u64 (q2 : Int)) = v2 at K2 ⊢
  obtain ⟨c0, c1, c2, c3, z0, z1, z2, z3⟩ := K2.out.f0 mm1
  rw [rounds_succ]
  go_wp2_with (go_at_call 177; refine (D1.out _).mono ?_; rintro e y1 ⟨rfl, hB⟩; (have J1 : Hid (Bx w [(w.heap.size + 1, 0, 0, 0, 0), (w.heap.size, (A0 : Int), (A1 : Int), (q2 : Int), (q3 : Int))] y1) := K2.out.past hB); clear hB K2 c0 c1 c2 c3 z0 z1 z2 z3; obtain ⟨c0, c1, c2, c3, z0, z1, z2, z3⟩ := J1.out.f0 mm1)
  have K1 : Hid (Bx w [(w.heap.size + 1, 0, 0, 0, 0), (w.heap.size, (A0 : Int), (q1 : Int), (q2 : Int), (q3 : Int))] (y1.setCell ⟨w.heap.size, 1, none⟩ (.int .u64 (q1 : Int)))) := J1.out.upd (by omega) 1 _ (by omega) (fun i hi => by rcases four_cases i hi with rfl | rfl | rfl | rfl <;> rfl)
  clear J1 c0 c1 c2 c3 z0 z1 z2 z3
  generalize y1.setCell ⟨w.heap.size, 1, none⟩ (.int .u64 (q1 : Int)) = v1 at K1 ⊢
  obtain ⟨c0, c1, c2, c3, z0, z1, z2, z3⟩ := K1.out.f0 mm1
  rw [rounds_succ]
  go_wp2_with (go_at_call 177; refine (D0.out _).mono ?_; rintro e y0 ⟨rfl, hB⟩; (have J0 : Hid (Bx w [(w.heap.size + 1, 0, 0, 0, 0), (w.heap.size, (A0 : Int), (q1 : Int), (q2 : Int), (q3 : Int))] y0) := K1.out.past hB); clear hB K1 c0 c1 c2 c3 z0 z1 z2 z3; obtain ⟨c0, c1, c2, c3, z0, z1, z2, z3⟩ := J0.out.f0 mm1)
  have K0 : Hid (Bx w [(w.heap.size + 1, 0, 0, 0, 0), (w.heap.size, (q0 : Int), (q1 : Int), (q2 : Int), (q3 : Int))] (y0.setCell ⟨w.heap.size, 0, none⟩ (.int .u64 (q0 : Int)))) := J0.out.upd (by omega) 0 _ (by omega) (fun i hi => by rcases four_cases i hi with rfl | rfl | rfl | rfl <;> rfl)
  clear J0 c0 c1 c2 c3 z0 z1 z2 z3
  generalize y0.setCell ⟨w.heap.size, 0, none⟩ (.int .u64 (q0 : Int)) = v0 at K0 ⊢
  obtain ⟨c0, c1, c2, c3, _⟩ := K0.out.f0 mm1
  obtain ⟨z0, z1, z2, z3, y0, y1, y2, y3⟩ := K0.out.f0 mm0
  rw [rounds_succ]
  go_wp2
  exact bodyPost_ret (v := .tuple #[.agg #[.int .u64 (q0 : Int), .int .u64 (q1 : Int), .int .u64 (q2 : Int), .int .u64 (q3 : Int)], .int .u64 (r0 : Int)]) (by simp [results, Tryz.results174, go_sem, z0, z1, z2, z3]) rfl ⟨rfl, below_put K0.out.bel (by omega) _ _ _ _⟩
/-- what a sign counts as a digit; 255: it is none -/
def digv (c : Nat) : Nat := if 48 ≤ c ∧ c ≤ 57 then c - 48 else if 97 ≤ c ∧ c ≤ 102 then c - 87 else if 65 ≤ c ∧ c ≤ 70 then c - 55 else 255
set_option maxHeartbeats 1000000 in
theorem digitOf_is (c : Nat) (hc : c < 256) (w : World) : Calls Tryz.prog 171 #[.int .u8 (c : Int)] w fun e w' => e = .returned (.int .u64 (digv c : Int)) ∧ w' = w := by
  obtain ⟨y, ey⟩ : ∃ y, y = digv c := ⟨_, rfl⟩
  rw [← ey]
  unfold digv at ey
  by_cases h1 : 48 ≤ c ∧ c ≤ 57
  · rw [if_pos h1] at ey
    have i1 : (48 : Int) ≤ (c : Int) := by omega
    have i2 : (c : Int) ≤ 57 := by omega
    have v1 : (c : Int) - 48 = (y : Int) := by omega
    have v2 : IntKind.u8.wrap (y : Int) = (y : Int) := by rw [IntKind.wrap_u8]; omega
    have v3 : IntKind.u64.wrap (y : Int) = (y : Int) := by rw [IntKind.wrap_u64]; omega
    clear ey h1
    go_enter Tryz.func171, Tryz.ntmps171
    go_wp2
    go_ret
    exact ⟨rfl, rfl⟩
  · rw [if_neg h1] at ey
    by_cases h2 : 97 ≤ c ∧ c ≤ 102
    · rw [if_pos h2] at ey
      obtain ⟨t, et⟩ : ∃ t, t = c - 97 := ⟨_, rfl⟩
      have i0 : ¬ (c : Int) ≤ 57 := by omega
      have i1 : (97 : Int) ≤ (c : Int) := by omega
      have i2 : (c : Int) ≤ 102 := by omega
      have i3 : (48 : Int) ≤ (c : Int) := by omega
      have v1 : (c : Int) - 97 = (t : Int) := by omega
      have v2 : IntKind.u8.wrap (t : Int) = (t : Int) := by rw [IntKind.wrap_u8]; omega
      have v3 : IntKind.u64.wrap (t : Int) = (t : Int) := by rw [IntKind.wrap_u64]; omega
      have v4 : (t : Int) + 10 = (y : Int) := by omega
      have v5 : IntKind.u64.wrap (y : Int) = (y : Int) := by rw [IntKind.wrap_u64]; omega
      clear ey et h1 h2
      go_enter Tryz.func171, Tryz.ntmps171
      go_wp2
      go_ret
      exact ⟨rfl, rfl⟩
    · rw [if_neg h2] at ey
      by_cases h3 : 65 ≤ c ∧ c ≤ 70
      · rw [if_pos h3] at ey
        obtain ⟨t, et⟩ : ∃ t, t = c - 65 := ⟨_, rfl⟩
        have i0 : ¬ (c : Int) ≤ 57 := by omega
        have i1 : ¬ (97 : Int) ≤ (c : Int) := by omega
        have i2 : (c : Int) ≤ 70 := by omega
        have i3 : (48 : Int) ≤ (c : Int) := by omega
        have i4 : (65 : Int) ≤ (c : Int) := by omega
        have v1 : (c : Int) - 65 = (t : Int) := by omega
        have v2 : IntKind.u8.wrap (t : Int) = (t : Int) := by rw [IntKind.wrap_u8]; omega
        have v3 : IntKind.u64.wrap (t : Int) = (t : Int) := by rw [IntKind.wrap_u64]; omega
        have v4 : (t : Int) + 10 = (y : Int) := by omega
        have v5 : IntKind.u64.wrap (y : Int) = (y : Int) := by rw [IntKind.wrap_u64]; omega
        clear ey et h1 h2 h3
        go_enter Tryz.func171, Tryz.ntmps171
        go_wp2
        go_ret
        exact ⟨rfl, rfl⟩
      · rw [if_neg h3] at ey
        subst ey
        have a1 : decide ((48 : Int) ≤ (c : Int)) = true ∧ decide ((c : Int) ≤ 57) = false ∨ decide ((48 : Int) ≤ (c : Int)) = false := by simp; omega
        have a2 : decide ((97 : Int) ≤ (c : Int)) = true ∧ decide ((c : Int) ≤ 102) = false ∨ decide ((97 : Int) ≤ (c : Int)) = false := by simp; omega
        have a3 : decide ((65 : Int) ≤ (c : Int)) = true ∧ decide ((c : Int) ≤ 70) = false ∨ decide ((65 : Int) ≤ (c : Int)) = false := by simp; omega
        clear h1 h2 h3
        rcases a1 with ⟨b1, b2⟩ | b1 <;> rcases a2 with ⟨d1, d2⟩ | d1 <;> rcases a3 with ⟨f1, f2⟩ | f1
        all_goals (simp only [decide_eq_true_eq, decide_eq_false_iff_not] at *; go_enter Tryz.func171, Tryz.ntmps171; go_wp2; go_ret; exact ⟨rfl, rfl⟩)
end Go.Proofs.YtpadpmkfhljiiaaGreat
/- The document's 'worth' of a sign; word.lengthen. -/
namespace Go.Proofs.YtpadpmkfhljiiaaGreat
open Go.RowKit
set_option maxHeartbeats 1000000 in
theorem worth_is (c : Nat) (hc : c < 256) (w : World) : Calls Tryz.prog 173 #[.int .u8 (c : Int)] w fun e w' => e = .returned (.int .i64 (if digv c = 255 then -1 else (digv c : Int))) ∧ w' = w := by
  obtain ⟨y, ey⟩ : ∃ y, y = digv c := ⟨_, rfl⟩
  rw [← ey]
  unfold digv at ey
  by_cases h1 : 48 ≤ c ∧ c ≤ 57
  · rw [if_pos h1] at ey
    have i1 : (48 : Int) ≤ (c : Int) := by omega
    have i2 : (c : Int) ≤ 57 := by omega
    have v1 : (c : Int) - 48 = (y : Int) := by omega
    have v2 : IntKind.u8.wrap (y : Int) = (y : Int) := by rw [IntKind.wrap_u8]; omega
    have v3 : IntKind.i64.wrap (y : Int) = (y : Int) := by rw [IntKind.wrap_i64]; omega
    rw [if_neg (show ¬ y = 255 by omega)]
    clear ey h1
    go_enter Tryz.func173, Tryz.ntmps173
    go_wp2
    go_ret
    exact ⟨rfl, rfl⟩
  · rw [if_neg h1] at ey
    by_cases h2 : 97 ≤ c ∧ c ≤ 102
    · rw [if_pos h2] at ey
      obtain ⟨t, et⟩ : ∃ t, t = c - 97 := ⟨_, rfl⟩
      have i0 : ¬ (c : Int) ≤ 57 := by omega
      have i1 : (97 : Int) ≤ (c : Int) := by omega
      have i2 : (c : Int) ≤ 102 := by omega
      have i3 : (48 : Int) ≤ (c : Int) := by omega
      have v1 : (c : Int) - 97 = (t : Int) := by omega
      have v2 : IntKind.u8.wrap (t : Int) = (t : Int) := by rw [IntKind.wrap_u8]; omega
      have v3 : IntKind.i64.wrap (t : Int) = (t : Int) := by rw [IntKind.wrap_i64]; omega
      have v4 : (t : Int) + 10 = (y : Int) := by omega
      have v5 : IntKind.i64.wrap (y : Int) = (y : Int) := by rw [IntKind.wrap_i64]; omega
      rw [if_neg (show ¬ y = 255 by omega)]
      clear ey et h1 h2
      go_enter Tryz.func173, Tryz.ntmps173
      go_wp2
      go_ret
      exact ⟨rfl, rfl⟩
    · rw [if_neg h2] at ey
      by_cases h3 : 65 ≤ c ∧ c ≤ 70
      · rw [if_pos h3] at ey
        obtain ⟨t, et⟩ : ∃ t, t = c - 65 := ⟨_, rfl⟩
        have i0 : ¬ (c : Int) ≤ 57 := by omega
        have i1 : ¬ (97 : Int) ≤ (c : Int) := by omega
        have i2 : (c : Int) ≤ 70 := by omega
        have i3 : (48 : Int) ≤ (c : Int) := by omega
        have i4 : (65 : Int) ≤ (c : Int) := by omega
        have v1 : (c : Int) - 65 = (t : Int) := by omega
        have v2 : IntKind.u8.wrap (t : Int) = (t : Int) := by rw [IntKind.wrap_u8]; omega
        have v3 : IntKind.i64.wrap (t : Int) = (t : Int) := by rw [IntKind.wrap_i64]; omega
        have v4 : (t : Int) + 10 = (y : Int) := by omega
        have v5 : IntKind.i64.wrap (y : Int) = (y : Int) := by rw [IntKind.wrap_i64]; omega
        rw [if_neg (show ¬ y = 255 by omega)]
        clear ey et h1 h2 h3
        go_enter Tryz.func173, Tryz.ntmps173
        go_wp2
        go_ret
        exact ⟨rfl, rfl⟩
      · rw [if_neg h3] at ey
        subst ey
        rw [if_pos rfl]
        have a1 : decide ((48 : Int) ≤ (c : Int)) = true ∧ decide ((c : Int) ≤ 57) = false ∨ decide ((48 : Int) ≤ (c : Int)) = false := by simp; omega
        have a2 : decide ((97 : Int) ≤ (c : Int)) = true ∧ decide ((c : Int) ≤ 102) = false ∨ decide ((97 : Int) ≤ (c : Int)) = false := by simp; omega
        have a3 : decide ((65 : Int) ≤ (c : Int)) = true ∧ decide ((c : Int) ≤ 70) = false ∨ decide ((65 : Int) ≤ (c : Int)) = false := by simp; omega
        clear h1 h2 h3
        rcases a1 with ⟨b1, b2⟩ | b1 <;> rcases a2 with ⟨d1, d2⟩ | d1 <;> rcases a3 with ⟨f1, f2⟩ | f1
        all_goals (simp only [decide_eq_true_eq, decide_eq_false_iff_not] at *; go_enter Tryz.func173, Tryz.ntmps173; go_wp2; go_ret; exact ⟨rfl, rfl⟩)
set_option maxHeartbeats 4000000 in
set_option maxRecDepth 100000 in
theorem lengthen_is (a0 a1 a2 a3 : Int) (B D : Int) (h0 : U64 a0) (h1 : U64 a1) (h2 : U64 a2) (h3 : U64 a3) (hB : U64 B) (hD : U64 D) :
    ∃ l0 l1 l2 l3 h : Int, (U64 l0 ∧ U64 l1 ∧ U64 l2 ∧ U64 l3 ∧ U64 h) ∧ Hid (V a0 a1 a2 a3 * B + D = V l0 l1 l2 l3 + MM * h) ∧
      ∀ w : World, Calls Tryz.prog 172 #[.agg #[.int .u64 a0, .int .u64 a1, .int .u64 a2, .int .u64 a3], .int .u64 B, .int .u64 D] w fun e w' => e = .returned (.tuple #[.agg #[.int .u64 l0, .int .u64 l1, .int .u64 l2, .int .u64 l3], .int .u64 h]) ∧ Below w.heap.size w w' := by
  obtain ⟨e0, l0, C0, u0, v0, m0⟩ := mulAdd_ex a0 B D h0 hB hD
  obtain ⟨e1, l1, C1, u1, v1, m1⟩ := mulAdd_ex a1 B e0 h1 hB u0
  obtain ⟨e2, l2, C2, u2, v2, m2⟩ := mulAdd_ex a2 B e1 h2 hB u1
  obtain ⟨e3, l3, C3, u3, v3, m3⟩ := mulAdd_ex a3 B e2 h3 hB u2
  refine ⟨l0, l1, l2, l3, e3, ⟨v0, v1, v2, v3, u3⟩, ?_, fun w => ?_⟩
  · have n0 := m0.out
    have n1 := m1.out
    have n2 := m2.out
    have n3 := m3.out
    unfold Hid V MM Bd at *
    simp only [Int.add_mul, Int.mul_assoc] at *
    generalize a0 * B = z0 at *
    generalize a1 * B = z1 at *
    generalize a2 * B = z2 at *
    generalize a3 * B = z3 at *
    omega
  have D0 : Hid _ := C0
  have D1 : Hid _ := C1
  have D2 : Hid _ := C2
  have D3 : Hid _ := C3
  clear C0 C1 C2 C3 m0 m1 m2 m3
  have K0 : Hid (Bx w [(w.heap.size + 1, 0, 0, 0, 0), (w.heap.size, a0, a1, a2, a3)] ((w.alloc (.cells #[.int .u64 a0, .int .u64 a1, .int .u64 a2, .int .u64 a3] 24)).alloc (.cells #[.int .u64 0, .int .u64 0, .int .u64 0, .int .u64 0] 24))) := by
    have h := ((Bx.start w).alloc a0 a1 a2 a3).alloc 0 0 0 0
    (try simp only [World.size_alloc] at h)
    exact h
  go_enter Tryz.func172, Tryz.ntmps172
  go_upto_region 1 with fail
  generalize (w.alloc (.cells #[.int .u64 a0, .int .u64 a1, .int .u64 a2, .int .u64 a3] 24)).alloc (.cells #[.int .u64 0, .int .u64 0, .int .u64 0, .int .u64 0] 24) = x0 at K0 ⊢
  go_wp2
  refine wp_loop_rounds 5 ?_
  obtain ⟨c0, c1, c2, c3, z0, z1, z2, z3⟩ := K0.out.f0 mm1
  rw [rounds_succ]
  go_wp2_with (go_at_call 125; refine (D0.out _).mono ?_; rintro e w' ⟨rfl, hw⟩; (have hw2 := hw.symm); clear hw; subst hw2)
  have K1 : Hid (Bx w [(w.heap.size + 1, 0, 0, 0, 0), (w.heap.size, l0, a1, a2, a3)] (x0.setCell ⟨w.heap.size, 0, none⟩ (.int .u64 l0))) := K0.out.upd (by omega) 0 _ (by omega) (fun i hi => by rcases four_cases i hi with rfl | rfl | rfl | rfl <;> rfl)
  clear K0 c0 c1 c2 c3 z0 z1 z2 z3
  generalize x0.setCell ⟨w.heap.size, 0, none⟩ (.int .u64 l0) = x1 at K1 ⊢
  obtain ⟨c0, c1, c2, c3, z0, z1, z2, z3⟩ := K1.out.f0 mm1
  rw [rounds_succ]
  go_wp2_with (go_at_call 125; refine (D1.out _).mono ?_; rintro e w' ⟨rfl, hw⟩; (have hw2 := hw.symm); clear hw; subst hw2)
  have K2 : Hid (Bx w [(w.heap.size + 1, 0, 0, 0, 0), (w.heap.size, l0, l1, a2, a3)] (x1.setCell ⟨w.heap.size, 1, none⟩ (.int .u64 l1))) := K1.out.upd (by omega) 1 _ (by omega) (fun i hi => by rcases four_cases i hi with rfl | rfl | rfl | rfl <;> rfl)
  clear K1 c0 c1 c2 c3 z0 z1 z2 z3
  generalize x1.setCell ⟨w.heap.size, 1, none⟩ (.int .u64 l1) = x2 at K2 ⊢
  obtain ⟨c0, c1, c2, c3, z0, z1, z2, z3⟩ := K2.out.f0 mm1
  rw [rounds_succ]
  go_wp2_with (go_at_call 125; refine (D2.out _).mono ?_; rintro e w' ⟨rfl, hw⟩; (have hw2 := hw.symm); clear hw; subst hw2)
  have K3 : Hid (Bx w [(w.heap.size + 1, 0, 0, 0, 0), (w.heap.size, l0, l1, l2, a3)] (x2.setCell ⟨w.heap.size, 2, none⟩ (.int .u64 l2))) := K2.out.upd (by omega) 2 _ (by omega) (fun i hi => by rcases four_cases i hi with rfl | rfl | rfl | rfl <;> rfl)
  clear K2 c0 c1 c2 c3 z0 z1 z2 z3
  generalize x2.setCell ⟨w.heap.size, 2, none⟩ (.int .u64 l2) = x3 at K3 ⊢
  obtain ⟨c0, c1, c2, c3, z0, z1, z2, z3⟩ := K3.out.f0 mm1
  rw [rounds_succ]
  go_wp2_with (go_at_call 125; refine (D3.out _).mono ?_; rintro e w' ⟨rfl, hw⟩; (have hw2 := hw.symm); clear hw; subst hw2)
  have K4 : Hid (Bx w [(w.heap.size + 1, 0, 0, 0, 0), (w.heap.size, l0, l1, l2, l3)] (x3.setCell ⟨w.heap.size, 3, none⟩ (.int .u64 l3))) := K3.out.upd (by omega) 3 _ (by omega) (fun i hi => by rcases four_cases i hi with rfl | rfl | rfl | rfl <;> rfl)
  clear K3 c0 c1 c2 c3 z0 z1 z2 z3
  generalize x3.setCell ⟨w.heap.size, 3, none⟩ (.int .u64 l3) = x4 at K4 ⊢
  obtain ⟨c0, c1, c2, c3, _⟩ := K4.out.f0 mm1
  obtain ⟨z0, z1, z2, z3, y0, y1, y2, y3⟩ := K4.out.f0 mm0
  rw [rounds_succ]
  go_wp2
  exact bodyPost_ret (v := .tuple #[.agg #[.int .u64 l0, .int .u64 l1, .int .u64 l2, .int .u64 l3], .int .u64 e3]) (by simp [results, Tryz.results172, go_sem, z0, z1, z2, z3]) rfl ⟨rfl, below_put K4.out.bel (by omega) _ _ _ _⟩
end Go.Proofs.YtpadpmkfhljiiaaGreat
/- The document's numbers: rows of digits of base 256. -/
namespace Go.Proofs.YtpadpmkfhljiiaaGreat
open Go.RowKit
/-- the number of the first n digits -/
def dsum (d : Nat → Nat) : Nat → Nat
  | 0 => 0
  | n + 1 => dsum d n + d n * 256 ^ n
theorem dsum_lt {d : Nat → Nat} (h : ∀ i, d i < 256) : ∀ n, dsum d n < 256 ^ n
  | 0 => by simp [dsum]
  | n + 1 => by
    have h1 := dsum_lt h n
    have h2 : (d n + 1) * 256 ^ n ≤ 256 * 256 ^ n := Nat.mul_le_mul_right _ (h n)
    rw [Nat.add_mul, Nat.one_mul] at h2
    rw [dsum, Nat.pow_succ, Nat.mul_comm (256 ^ n) 256]; omega
theorem dsum_ext {d e : Nat → Nat} : ∀ n, (∀ i, i < n → d i = e i) → dsum d n = dsum e n
  | 0, _ => rfl
  | n + 1, h => by rw [dsum, dsum, dsum_ext n (fun i hi => h i (by omega)), h n (by omega)]
theorem dsum_more {d : Nat → Nat} {n : Nat} (h : ∀ i, n ≤ i → d i = 0) : ∀ m, n ≤ m → dsum d m = dsum d n
  | 0, hm => by rw [show n = 0 by omega]
  | m + 1, hm => by
    by_cases e : n = m + 1
    · rw [e]
    · rw [dsum, h m (by omega), Nat.zero_mul, Nat.add_zero, dsum_more h m (by omega)]
theorem dsum_zero {d : Nat → Nat} : ∀ n, (∀ i, i < n → d i = 0) → dsum d n = 0
  | 0, _ => rfl
  | n + 1, h => by rw [dsum, dsum_zero n (fun i hi => h i (by omega)), h n (by omega)]; simp
/-- above j the digits agree -/
theorem dsum_agree {d e : Nat → Nat} (j : Nat) : ∀ n, j ≤ n → (∀ i, j ≤ i → i < n → d i = e i) → dsum d n + dsum e j = dsum e n + dsum d j
  | 0, hn, _ => by obtain rfl : j = 0 := by omega
                   rfl
  | n + 1, hn, h => by
    by_cases q : j = n + 1
    · subst q; omega
    · have := dsum_agree j n (by omega) (fun i h1 h2 => h i h1 (by omega))
      rw [dsum, dsum, h n (by omega) (by omega)]; omega
theorem dsum_less {d e : Nat → Nat} (hd : ∀ i, d i < 256) (j n : Nat) (hj : j < n) (hlt : d j < e j) (h : ∀ i, j + 1 ≤ i → i < n → d i = e i) : dsum d n < dsum e n := by
  have h1 := dsum_agree (j + 1) n (by omega) h
  have h2 := dsum_lt hd j
  have h3 : (d j + 1) * 256 ^ j ≤ e j * 256 ^ j := Nat.mul_le_mul_right _ hlt
  rw [Nat.add_mul, Nat.one_mul] at h3
  have h4 : dsum d (j + 1) < dsum e (j + 1) := by rw [dsum, dsum]; omega
  omega
/-- the digits of a number -/
def dig (X : Nat) (i : Nat) : Nat := if i < 32 then X / 256 ^ i % 256 else 0
theorem dig_lt (X i : Nat) : dig X i < 256 := by unfold dig; split <;> omega
theorem dig_sum (X : Nat) : ∀ n, n ≤ 32 → dsum (dig X) n = X % 256 ^ n
  | 0, _ => by simp [dsum, Nat.mod_one]
  | n + 1, h => by
    rw [dsum, dig_sum X n (by omega), dig, if_pos (by omega), Nat.pow_succ, Nat.mod_mul, Nat.mul_comm (256 ^ n)]
/-- the value is a row of these n digits -/
def RowAt (W : World) (v : Value) (n : Nat) (d : Nat → Nat) : Prop := (∀ i, n ≤ i → d i = 0) ∧ (∀ i, d i < 256) ∧ n ≤ 1073741824 ∧ ∃ ad cap, v = .slice ad n cap ∧ (n ≠ 0 → ∃ g o, ad = some ⟨g, o, none⟩ ∧ ∀ i, i < n → W.cell? ⟨g, o + i, none⟩ = some (.int .i64 (d i : Int)))
theorem RowAt.below {W W' : World} {v : Value} {n : Nat} {d : Nat → Nat} (h : RowAt W v n d) (k : Below W.heap.size W W') : RowAt W' v n d := by
  obtain ⟨h1, h2, h3, ad, cap, e, hc⟩ := h
  refine ⟨h1, h2, h3, ad, cap, e, fun hn => ?_⟩
  obtain ⟨g, o, e1, hc⟩ := hc hn
  exact ⟨g, o, e1, fun i hi => (k.cell (p := ⟨g, o + i, none⟩) (World.block_lt_of_cell? W _ (hc i hi))).trans (hc i hi)⟩
def intsD (d : Nat → Nat) (n : Nat) : List Value := (List.range n).map fun i => .int .i64 (d i : Int)
theorem intsD_snoc (d : Nat → Nat) (n : Nat) : intsD d (n + 1) = intsD d n ++ [.int .i64 (d n : Int)] := by simp [intsD, List.range_succ]
theorem intsD_at (d : Nat → Nat) (n i : Nat) (h : i < n) : (intsD d n)[i]? = some (.int .i64 (d i : Int)) := by simp [intsD, h]
theorem RowAt.own {W : World} {B n : Nat} {v : Value} {d : Nat → Nat} (h : W.ownsRow B 3 1 v n (intsD d n)) (hd : ∀ i, d i < 256) (hz : ∀ i, n ≤ i → d i = 0) (hn : n ≤ 1073741824) : RowAt W v n d := by
  have h' := h
  obtain ⟨_, ⟨rfl, rfl⟩ | ⟨g, c, cur, rfl, hb, hh, _⟩⟩ := h'
  · exact ⟨hz, hd, hn, none, 0, rfl, fun e => absurd rfl e⟩
  · exact ⟨hz, hd, hn, _, c, rfl, fun _ => ⟨g, 0, rfl, fun i hi => by rw [Nat.zero_add, h.cellAt i (by omega), intsD_at d n i hi]⟩⟩
theorem Tryz.infoI : (Tryz.prog.info? 3).map (fun i => (i.zero, i.size, i.bytes)) = some (some (.int .i64 0), 1, 8) := by kernel_rfl
set_option maxHeartbeats 400000 in
theorem digit_is (W : World) (v : Value) (n : Nat) (d : Nat → Nat) (i : Nat) (h : RowAt W v n d) : Calls Tryz.prog 123 #[v, .int .i64 (i : Int)] W fun e w' => e = .returned (.int .i64 (d i : Int)) ∧ w' = W := by
  obtain ⟨hz, _, hn, ad, cap, rfl, hc⟩ := h
  by_cases hi : i < n
  · obtain ⟨g, o, rfl, hcc⟩ := hc (by omega)
    have c := hcc i hi
    have iI : (i : Int) < (n : Int) := by omega
    clear hc hcc hz
    go_enter Tryz.func123, Tryz.ntmps123
    go_wp2
    go_ret
    exact ⟨rfl, rfl⟩
  · have iI : ¬ ((i : Int) < (n : Int)) := by omega
    rw [hz i (by omega)]
    clear hc hz
    go_enter Tryz.func123, Tryz.ntmps123
    go_wp2
    go_ret
    exact ⟨rfl, rfl⟩
set_option maxHeartbeats 400000 in
theorem longer_is (W : World) (ad bd : Option Addr) (n m c1 c2 : Nat) : Calls Tryz.prog 124 #[.slice ad n c1, .slice bd m c2] W fun e w' => e = .returned (.int .i64 ((max n m : Nat) : Int)) ∧ w' = W := by
  by_cases hi : m < n
  · have iI : (m : Int) < (n : Int) := by omega
    rw [show max n m = n by omega]
    go_enter Tryz.func124, Tryz.ntmps124
    go_wp2
    go_ret
    exact ⟨rfl, rfl⟩
  · have iI : ¬ ((m : Int) < (n : Int)) := by omega
    rw [show max n m = m by omega]
    go_enter Tryz.func124, Tryz.ntmps124
    go_wp2
    go_ret
    exact ⟨rfl, rfl⟩
set_option maxHeartbeats 1000000 in
theorem compare_is (W : World) (v u : Value) (n m : Nat) (d e : Nat → Nat) (hv : RowAt W v n d) (hu : RowAt W u m e) (N : Nat) (hN : max n m ≤ N) :
    Calls Tryz.prog 118 #[v, u] W fun r w' => r = .returned (.int .i64 (cmpv (dsum d N : Int) (dsum e N : Int))) ∧ w' = W := by
  have HV : Hid (RowAt W v n d) := hv
  have HU : Hid (RowAt W u m e) := hu
  obtain ⟨hz, hd, hn, ad, cap, rfl, _⟩ := hv
  obtain ⟨hz', hd', hn', bd, cap', rfl, _⟩ := hu
  obtain ⟨K, eK⟩ : ∃ K, K = max n m := ⟨_, rfl⟩
  have e1 : dsum d N = dsum d K := dsum_more (fun i hi => hz i (by omega)) N (by omega)
  have e2 : dsum e N = dsum e K := dsum_more (fun i hi => hz' i (by omega)) N (by omega)
  rw [e1, e2]
  have HD : Hid _ := hd
  have HE : Hid _ := hd'
  have LG : Hid (Calls Tryz.prog 124 #[.slice ad n cap, .slice bd m cap'] W fun e w' => e = .returned (.int .i64 (K : Int)) ∧ w' = W) := by rw [eK]; exact longer_is W ad bd n m cap cap'
  have kI : (K : Int) ≤ 1073741824 := by omega
  clear hz hz' hd hd' e1 e2 eK hN
  go_enter Tryz.func118, Tryz.ntmps118
  go_wp2_with (go_at_call 124; refine Calls.mono LG.out ?_; rintro e0 w' ⟨rfl, hw⟩; (have hw2 := hw.symm); clear hw; subst hw2)
  go_loop [5] (fun s => ∃ j : Nat, s = .int .i64 ((j : Int) - 1) ∧ j ≤ K ∧ (∀ i, j ≤ i → i < K → d i = e i)) (fun s => (intOf s + 1).toNat)
  case atStart => exact ⟨K, rfl, Nat.le_refl _, fun i h1 h2 => by omega⟩
  case round =>
    obtain ⟨j, rfl, hj, hag⟩ := hrel
    have HAG : Hid _ := hag
    clear hag
    rcases j with _ | j
    · go_wp2
      go_ret
      refine ⟨ret_int ?_, rfl⟩
      rw [dsum_ext K (fun i hi => HAG.out i (by omega) hi)]; simp [cmpv]
    · rw [show ((j + 1 : Nat) : Int) - 1 = (j : Int) by omega]
      have jI : (0 : Int) ≤ (j : Int) := by omega
      obtain ⟨x, ex⟩ : ∃ x, x = d j := ⟨_, rfl⟩
      obtain ⟨y, ey⟩ : ∃ y, y = e j := ⟨_, rfl⟩
      have D1 : Hid (Calls Tryz.prog 123 #[.slice ad n cap, .int .i64 (j : Int)] W fun e w' => e = .returned (.int .i64 (x : Int)) ∧ w' = W) := by rw [ex]; exact digit_is W _ n d j HV.out
      have D2 : Hid (Calls Tryz.prog 123 #[.slice bd m cap', .int .i64 (j : Int)] W fun e w' => e = .returned (.int .i64 (y : Int)) ∧ w' = W) := by rw [ey]; exact digit_is W _ m e j HU.out
      have EX : Hid _ := ex
      have EY : Hid _ := ey
      clear ex ey
      go_upto_region 5 with (go_at_call 123; refine Calls.mono D1.out ?_; rintro e0 w' ⟨rfl, hw⟩; (have hw2 := hw.symm); clear hw; subst hw2)
      go_upto_region 6 with (go_at_call 123; refine Calls.mono D2.out ?_; rintro e0 w' ⟨rfl, hw⟩; (have hw2 := hw.symm); clear hw; subst hw2)
      by_cases h1 : x < y
      · have xI : (x : Int) < (y : Int) := by omega
        go_wp2
        go_ret
        refine ⟨ret_int ?_, rfl⟩
        have := dsum_less HD.out j K (by omega) (by rw [← EX.out, ← EY.out]; exact h1) (fun i h1 h2 => HAG.out i (by omega) h2)
        rw [cmpv, if_pos (by omega)]
      · by_cases h2 : y < x
        · have xI : (y : Int) < (x : Int) := by omega
          have xI2 : ¬ ((x : Int) < (y : Int)) := by omega
          go_wp2
          go_ret
          refine ⟨ret_int ?_, rfl⟩
          have := dsum_less HE.out j K (by omega) (by rw [← EX.out, ← EY.out]; exact h2) (fun i h1 h2 => (HAG.out i (by omega) h2).symm)
          rw [cmpv, if_neg (by omega), if_pos (by omega)]
        · obtain rfl : x = y := by omega
          have xI2 : ¬ ((x : Int) < (x : Int)) := by omega
          go_wp2
          go_round
          case rel => exact ⟨j, rfl, by omega, fun i h1 h2 => by by_cases q : i = j; (rw [q, ← EX.out, ← EY.out]); exact HAG.out i (by omega) h2⟩
          case measure => simp [intOf]
end Go.Proofs.YtpadpmkfhljiiaaGreat
/- The document's 'of' (a word's digits), 'none', and its comparisons. -/
namespace Go.Proofs.YtpadpmkfhljiiaaGreat
open Go.RowKit
theorem dig_limb {a0 a1 a2 a3 : Int} (h0 : U64 a0) (h1 : U64 a1) (h2 : U64 a2) (h3 : U64 a3) (X : Nat) (hX : V a0 a1 a2 a3 = (X : Int)) (i : Nat) (hi : i < 32) : ((limb a0 a1 a2 a3 (i / 8)).toNat / 256 ^ (i % 8)) % 256 = dig X i := by
  obtain ⟨h00, h01⟩ := h0
  obtain ⟨h10, h11⟩ := h1
  obtain ⟨h20, h21⟩ := h2
  obtain ⟨h30, h31⟩ := h3
  unfold Bd at h01 h11 h21 h31
  unfold V Bd at hX
  rw [dig, if_pos hi]
  obtain ⟨q, eq⟩ : ∃ q, q = i / 8 := ⟨_, rfl⟩
  obtain ⟨r, er⟩ : ∃ r, r = i % 8 := ⟨_, rfl⟩
  rw [show i = 8 * q + r by omega, show (8 * q + r) / 8 = q by omega, show (8 * q + r) % 8 = r by omega, Nat.pow_add, ← Nat.div_div_eq_div_mul]
  have hq : q = 0 ∨ q = 1 ∨ q = 2 ∨ q = 3 := by omega
  have hr : r = 0 ∨ r = 1 ∨ r = 2 ∨ r = 3 ∨ r = 4 ∨ r = 5 ∨ r = 6 ∨ r = 7 := by omega
  have key : ∃ hi : Nat, X / 256 ^ (8 * q) = (limb a0 a1 a2 a3 q).toNat + 18446744073709551616 * hi := by
    rcases hq with rfl | rfl | rfl | rfl
    · exact ⟨X / 18446744073709551616, by simp only [limb]; simp; omega⟩
    · exact ⟨X / 340282366920938463463374607431768211456, by simp only [limb]; simp; omega⟩
    · exact ⟨X / 6277101735386680763835789423207666416102355444464034512896, by simp only [limb]; simp; omega⟩
    · exact ⟨0, by simp only [limb]; simp; omega⟩
  obtain ⟨hh, key⟩ := key
  rw [key]
  generalize (limb a0 a1 a2 a3 q).toNat = l
  rcases hr with rfl | rfl | rfl | rfl | rfl | rfl | rfl | rfl <;> simp only [Nat.reducePow, Nat.pow_zero] <;> omega
theorem of_step {W0 wr w1 : World} {v v' : Value} {o : Obj} {d : Nat → Nat} {k y : Nat} (hy : y = d k) (hown : wr.ownsRow W0.heap.size 3 1 v k (intsD d k)) (hB : Below W0.heap.size W0 wr)
    (hown' : w1.ownsRow W0.heap.size 3 1 v' (k + 1) (intsD d k ++ [.int .i64 (y : Int)])) (hg : (wr.alloc o).grownBy w1 v.ownBlock) :
    w1.ownsRow W0.heap.size 3 1 v' (k + 1) (intsD d (k + 1)) ∧ Below W0.heap.size W0 w1 := by
  rw [intsD_snoc, ← hy]
  exact ⟨hown', Below.grown (hB.alloc hB.size o) hg (by have := hB.size; simp; omega) (fun q h => (hown.lt q h).1)⟩
set_option maxHeartbeats 2000000 in
set_option maxRecDepth 100000 in
theorem of_is (x : Int) (a0 a1 a2 a3 : Int) (w : World) (ha : IsW x a0 a1 a2 a3) (X : Nat) (hX : V a0 a1 a2 a3 = (X : Int)) :
    Calls Tryz.prog 79 #[.agg #[.int .u64 a0, .int .u64 a1, .int .u64 a2, .int .u64 a3]] w fun e w' => ∃ v, e = .returned v ∧ RowAt w' v 32 (dig X) ∧ Below w.heap.size w w' := by
  have HA : Hid (IsW x a0 a1 a2 a3) := ha
  have HX : Hid (V a0 a1 a2 a3 = (X : Int)) := hX
  obtain ⟨i0, hi, hz0, hz1, hz2⟩ := info_parts Tryz.infoI
  have B1 : Hid (Below w.heap.size w (w.alloc (.cells #[.int .u64 a0, .int .u64 a1, .int .u64 a2, .int .u64 a3] 24))) := (Below.refl _ _).alloc (by omega) _
  have hc := box_cell w a0 a1 a2 a3 24
  have HC : Hid _ := hc
  clear ha hX hc
  go_enter Tryz.func79, Tryz.ntmps79
  go_wp2
  obtain ⟨W0, e0⟩ : ∃ W0, w.alloc (.cells #[.int .u64 a0, .int .u64 a1, .int .u64 a2, .int .u64 a3] 24) = W0 := ⟨_, rfl⟩
  rw [e0] at B1 HC ⊢
  have z0 : w.heap.size < W0.heap.size := World.block_lt_of_cell? W0 _ (HC.out 0 (by omega))
  clear e0
  go_loopw [3, 4] (fun s3 i wr => ∃ k : Nat, k ≤ 32 ∧ i = .int .i64 k ∧ wr.ownsRow W0.heap.size 3 1 s3 k (intsD (dig X) k) ∧ Below W0.heap.size W0 wr) (fun _ i _ => 32 - (intOf i).toNat)
  case atStart => exact ⟨0, by omega, rfl, World.ownsRow_nil _ _ _ _, Below.refl _ _⟩
  case round =>
    obtain ⟨k, hk, rfl, hown, hB⟩ := hrel
    have HOW : Hid _ := hown
    have HB : Hid _ := hB
    have b0 := hB.size
    by_cases hk5 : k < 32
    · have kI : (k : Int) < 32 := by omega
      obtain ⟨q, eq⟩ : ∃ q : Nat, q = k / 8 := ⟨_, rfl⟩
      obtain ⟨r, er⟩ : ∃ r : Nat, r = k % 8 := ⟨_, rfl⟩
      have t1 : Int.tdiv (k : Int) 8 = (q : Int) := by rw [Int.tdiv_eq_ediv_of_nonneg (by omega)]; omega
      have t2 : Int.tmod (k : Int) 8 = (r : Int) := by rw [Int.tmod_eq_emod_of_nonneg (by omega)]; omega
      have w1 : IntKind.i64.wrap (q : Int) = (q : Int) := by rw [IntKind.wrap_i64]; omega
      have w2 : IntKind.i64.wrap (r : Int) = (r : Int) := by rw [IntKind.wrap_i64]; omega
      have qI : (q : Int) < 4 := by omega
      have r8 : r < 8 := by omega
      have cell := (hB.cell (p := ⟨w.heap.size, q, none⟩) z0).trans (HC.out q (by omega))
      have hu := limb_u64 HA.out.u0 HA.out.u1 HA.out.u2 HA.out.u3 q
      have hd := dig_limb HA.out.u0 HA.out.u1 HA.out.u2 HA.out.u3 X HX.out k hk5
      rw [← eq, ← er] at hd
      generalize limb a0 a1 a2 a3 q = z at cell hu hd
      obtain ⟨zn, rfl⟩ : ∃ zn : Nat, z = (zn : Int) := ⟨z.toNat, by have := hu.1; omega⟩
      have zb : zn < 18446744073709551616 := by have := hu.2; unfold Bd at this; omega
      rw [Int.toNat_natCast] at hd
      have HD : Hid _ := hd
      clear hd hu eq er hown hB
      go_wp2
      go_loop [5, 6] (fun c j => ∃ m : Nat, m ≤ r ∧ j = .int .i64 m ∧ c = .int .u64 ((zn / 256 ^ m : Nat) : Int)) (fun _ j => r - (intOf j).toNat)
      case atStart => exact ⟨0, by omega, rfl, by rw [Nat.pow_zero, Nat.div_one]⟩
      case round =>
        obtain ⟨m, hm, rfl, rfl⟩ := hrel
        by_cases hmr : m < r
        · have mI : (m : Int) < (r : Int) := by omega
          have m8 : (m : Int) < 8 := by omega
          have e1 : zn / 256 ^ (m + 1) = zn / 256 ^ m / 256 := by rw [Nat.pow_succ, Nat.div_div_eq_div_mul]
          have l1 : zn / 256 ^ m ≤ zn := Nat.div_le_self _ _
          have E1 : Hid _ := e1
          generalize zn / 256 ^ m = u at e1 l1 E1
          have t3 : Int.tdiv (u : Int) 256 = ((u / 256 : Nat) : Int) := by rw [Int.tdiv_eq_ediv_of_nonneg (by omega)]; omega
          have w3 : IntKind.u64.wrap ((u / 256 : Nat) : Int) = ((u / 256 : Nat) : Int) := by rw [IntKind.wrap_u64]; omega
          clear e1
          go_wp2
          go_round
          case rel => exact ⟨m + 1, by omega, by go_num, by rw [E1.out]; first | rfl | (congr 1; omega)⟩
          case measure => simp [intOf]; omega
        · obtain rfl : m = r := by omega
          have mI : ¬ ((m : Int) < (m : Int)) := by omega
          have l1 : zn / 256 ^ m ≤ zn := Nat.div_le_self _ _
          generalize zn / 256 ^ m = u at HD l1
          obtain ⟨y, ey⟩ : ∃ y : Nat, y = u % 256 := ⟨_, rfl⟩
          have t3 : Int.tmod (u : Int) 256 = (y : Int) := by rw [Int.tmod_eq_emod_of_nonneg (by omega)]; omega
          have t4 : (u : Int) % 256 = (y : Int) := by omega
          have w3 : IntKind.u64.wrap (y : Int) = (y : Int) := by rw [IntKind.wrap_u64]; omega
          have w4 : IntKind.i64.wrap (y : Int) = (y : Int) := by rw [IntKind.wrap_i64]; omega
          have EY : Hid (y = dig X k) := by have h := HD.out; unfold Hid; rw [← h, ey]
          clear ey HD
          go_wp2_with (at_builtin; refine wpList_append_own _ rfl _ _ 61 rfl W0.heap.size 3 i0 (.int .i64 0) 1 8 Tryz.underlying61 hi hz0 hz1 hz2 rfl (by decide) _ _ _ rfl (World.ownsRow.alloc HOW.out _) ⟨wr.heap.size, 0, none⟩ 1 1 [.int .i64 (y : Int)] rfl rfl (fun j u hj => (by have hj0 : j = 0 := (by have := (List.getElem?_eq_some_iff.1 hj).1; simpa using this); subst hj0; simp at hj; subst hj; (first | (simp [Addr.add]; done) | (simp [Addr.add]; first | exact t4 | omega)))) (fun u hu => (by rw [List.mem_singleton.1 hu]; rfl)) (by unfold maxLen; omega) (by omega) (by simp; omega) ?_; intro v' w1 hown' hgrow _)
          have R : Hid _ := of_step EY.out HOW.out HB.out hown' hgrow
          clear hown' hgrow
          go_wp2
          go_roundw
          case rel => exact ⟨k + 1, by omega, by go_num, R.out⟩
          case measure => simp [intOf]; omega
    · obtain rfl : k = 32 := by omega
      clear hown hB
      go_wp2
      go_ret
      exact ⟨_, rfl, RowAt.own HOW.out (dig_lt X) (fun i hi => by rw [dig, if_neg (by omega)]) (by omega), Below.trans B1.out (HB.out.mono (by omega))⟩
end Go.Proofs.YtpadpmkfhljiiaaGreat
/- The document's comparisons. -/
namespace Go.Proofs.YtpadpmkfhljiiaaGreat
open Go.RowKit
theorem dig_all (X : Nat) (h : X < 256 ^ 32) : dsum (dig X) 32 = X := by rw [dig_sum X 32 (by omega), Nat.mod_eq_of_lt h]
theorem mod_nat {x : Int} {a0 a1 a2 a3 : Int} (h : IsW x a0 a1 a2 a3) : ∃ X : Nat, V a0 a1 a2 a3 = (X : Int) ∧ (X : Int) = x % MM ∧ X < 256 ^ 32 := by
  have r := h.range
  have e : (256 ^ 32 : Nat) = 115792089237316195423570985008687907853269984665640564039457584007913129639936 := by decide
  unfold MM at r
  exact ⟨(V a0 a1 a2 a3).toNat, by omega, by rw [← h.2]; omega, by rw [e]; omega⟩
theorem dsum_pos {d : Nat → Nat} (i : Nat) (hi : d i ≠ 0) : ∀ n, i < n → dsum d n ≠ 0
  | 0, h => absurd h (by omega)
  | n + 1, h => by
    rw [dsum]
    by_cases e : i = n
    · subst e
      have : 0 < d i * 256 ^ i := Nat.mul_pos (by omega) (Nat.pow_pos (by omega))
      omega
    · have := dsum_pos i hi n (by omega); omega
set_option maxHeartbeats 1000000 in
theorem none_is (W : World) (v : Value) (n : Nat) (d : Nat → Nat) (hv : RowAt W v n d) (r : Bool) (hr : decide (dsum d n = 0) = r) :
    Calls Tryz.prog 88 #[v] W fun e w' => e = .returned (.bool r) ∧ w' = W := by
  obtain ⟨hz, hd, hn, ad, cap, rfl, hc⟩ := hv
  have HC : Hid _ := hc
  have HR : Hid _ := hr
  have nI : (n : Int) ≤ 1073741824 := by omega
  clear hz hd hc hr
  go_enter Tryz.func88, Tryz.ntmps88
  go_wp2
  go_loop [3] (fun s => ∃ k : Nat, s = .int .i64 (k : Int) ∧ k ≤ n ∧ (∀ i, i < k → d i = 0)) (fun s => n - (intOf s).toNat)
  case atStart => exact ⟨0, rfl, by omega, fun i hi => absurd hi (by omega)⟩
  case round =>
    obtain ⟨k, rfl, hk, hz⟩ := hrel
    have HZ : Hid _ := hz
    clear hz
    by_cases hkn : k < n
    · have kI : (k : Int) < (n : Int) := by omega
      obtain ⟨g, o, rfl, hcc⟩ := HC.out (by omega)
      have c := hcc k hkn
      obtain ⟨y, ey⟩ : ∃ y, y = d k := ⟨_, rfl⟩
      rw [← ey] at c
      have EY : Hid _ := ey
      clear hcc ey
      by_cases hy : y = 0
      · subst hy
        go_wp2
        go_round
        case rel => exact ⟨k + 1, by go_num, by omega, fun i hi => by by_cases q : i = k; (rw [q, ← EY.out]); exact HZ.out i (by omega)⟩
        case measure => simp [intOf]; omega
      · have yI : ¬ ((y : Int) = 0) := by omega
        go_wp2
        go_ret
        refine ⟨ret_bool ?_, rfl⟩
        rw [← HR.out, decide_eq_false (dsum_pos k (by rw [← EY.out]; exact hy) n hkn)]
    · obtain rfl : k = n := by omega
      go_wp2
      go_ret
      refine ⟨ret_bool ?_, rfl⟩
      rw [← HR.out, decide_eq_true (dsum_zero k HZ.out)]
end Go.Proofs.YtpadpmkfhljiiaaGreat
/- The document's 'small', 'cut', 'bit', 'word'. -/
namespace Go.Proofs.YtpadpmkfhljiiaaGreat
open Go.RowKit
theorem dsum_split (d : Nat → Nat) (a : Nat) : ∀ b, dsum d (a + b) = dsum d a + 256 ^ a * dsum (fun r => d (a + r)) b
  | 0 => by simp [dsum]
  | b + 1 => by
    rw [← Nat.add_assoc, dsum, dsum_split d a b, dsum, Nat.mul_add, Nat.pow_add]
    have : d (a + b) * (256 ^ a * 256 ^ b) = 256 ^ a * (d (a + b) * 256 ^ b) := by rw [Nat.mul_left_comm]
    omega
theorem dsum_front (d : Nat → Nat) (k : Nat) : dsum d (k + 1) = d 0 + 256 * dsum (fun r => d (1 + r)) k := by
  have := dsum_split d 1 k
  rw [Nat.add_comm 1 k] at this
  rw [this]; simp [dsum]
theorem dsum_mod {d : Nat → Nat} (hd : ∀ i, d i < 256) (n c : Nat) : dsum d n % 256 ^ c = dsum (fun i => if i < c then d i else 0) n := by
  by_cases h : n ≤ c
  · have h1 := dsum_lt hd n
    have h2 : 256 ^ n ≤ 256 ^ c := Nat.pow_le_pow_right (by omega) h
    rw [Nat.mod_eq_of_lt (by omega)]
    exact dsum_ext n fun i hi => by rw [if_pos (by omega)]
  · obtain ⟨b, rfl⟩ : ∃ b, n = c + b := ⟨n - c, by omega⟩
    rw [dsum_split, Nat.add_mul_mod_self_left, Nat.mod_eq_of_lt (dsum_lt hd c)]
    rw [dsum_more (n := c) (fun i hi => by simp only [show ¬ (i < c) by omega, if_false]) (c + b) (by omega)]
    exact dsum_ext c fun i hi => by rw [if_pos hi]
def cutD (d : Nat → Nat) (c i : Nat) : Nat := if i < c then d i else 0
theorem cutD_lt {d : Nat → Nat} (hd : ∀ i, d i < 256) (c i : Nat) : cutD d c i < 256 := by unfold cutD; split; exact hd i; omega
theorem cutD_sum {d : Nat → Nat} (hd : ∀ i, d i < 256) (n c : Nat) : dsum (cutD d c) n = dsum d n % 256 ^ c := (dsum_mod hd n c).symm
set_option maxHeartbeats 1000000 in
set_option maxRecDepth 100000 in
/-- the first c digits -/
theorem cut_is (w : World) (v : Value) (n : Nat) (d : Nat → Nat) (hv : RowAt w v n d) (c : Nat) (hc : c ≤ 1048576) :
    Calls Tryz.prog 133 #[v, .int .i64 (c : Int)] w fun e w' => ∃ u, e = .returned u ∧ RowAt w' u (min c n) (cutD d c) ∧ Below w.heap.size w w' := by
  obtain ⟨K, eK⟩ : ∃ K, K = min c n := ⟨_, rfl⟩
  rw [← eK]
  have EK : Hid (K = min c n) := eK
  obtain ⟨hz, hd, hn, ad, cap, rfl, hcc⟩ := hv
  obtain ⟨i0, hi, hz0, hz1, hz2⟩ := info_parts Tryz.infoI
  have HC : Hid _ := hcc
  have HZ : Hid _ := hz
  have HD : Hid _ := hd
  have cI : (c : Int) ≤ 1048576 := by omega
  have nI : (n : Int) ≤ 1073741824 := by omega
  have kI0 : K ≤ 1048576 := by omega
  clear hcc hz hd eK
  go_enter Tryz.func133, Tryz.ntmps133
  go_wp2
  go_loopw [5, 6] (fun s5 i wr => ∃ k : Nat, k ≤ K ∧ i = .int .i64 k ∧ wr.ownsRow w.heap.size 3 1 s5 k (intsD (cutD d c) k) ∧ Below w.heap.size w wr) (fun _ i _ => K - (intOf i).toNat)
  case atStart => exact ⟨0, by omega, rfl, World.ownsRow_nil _ _ _ _, Below.refl _ _⟩
  case round =>
    obtain ⟨k, hk, rfl, hown, hB⟩ := hrel
    have HOW : Hid _ := hown
    have HB : Hid _ := hB
    have b0 := hB.size
    by_cases hk5 : k < K
    · have kI : (k : Int) < (c : Int) := by have := EK.out; omega
      have kI2 : (k : Int) < (n : Int) := by have := EK.out; omega
      have kn : k < n := by omega
      obtain ⟨g, o, rfl, hcl⟩ := HC.out (by omega)
      have cell := (hB.cell (p := ⟨g, o + k, none⟩) (World.block_lt_of_cell? w _ (hcl k (by omega)))).trans (hcl k (by omega))
      obtain ⟨y, ey⟩ : ∃ y, y = d k := ⟨_, rfl⟩
      rw [← ey] at cell
      have EY : Hid (y = (cutD d c) k) := by unfold Hid cutD; rw [if_pos (by omega)]; exact ey
      clear hown hB hcl ey
      go_wp2_with (at_builtin; refine wpList_append_own _ rfl _ _ 61 rfl w.heap.size 3 i0 (.int .i64 0) 1 8 Tryz.underlying61 hi hz0 hz1 hz2 rfl (by decide) _ _ _ rfl (World.ownsRow.alloc HOW.out _) ⟨wr.heap.size, 0, none⟩ 1 1 [.int .i64 (y : Int)] rfl rfl (fun j u hj => (by have hj0 : j = 0 := (by have := (List.getElem?_eq_some_iff.1 hj).1; simpa using this); subst hj0; simp at hj; subst hj; simp [Addr.add])) (fun u hu => (by rw [List.mem_singleton.1 hu]; rfl)) (by unfold maxLen; omega) (by omega) (by simp; omega) ?_; intro v' w1 hown' hgrow _)
      have R : Hid _ := of_step EY.out HOW.out HB.out hown' hgrow
      clear hown' hgrow
      go_wp2
      go_roundw
      case rel => exact ⟨k + 1, by omega, by go_num, R.out⟩
      case measure => simp [intOf]; omega
    · obtain rfl : k = K := by omega
      clear hown hB
      have FIN : Hid (RowAt wr u5 k (cutD d c)) := RowAt.own HOW.out (cutD_lt HD.out c) (fun i hi => by
        unfold cutD
        by_cases q : i < c
        · rw [if_pos q]; exact HZ.out i (by have := EK.out; omega)
        · rw [if_neg q]) (by omega)
      by_cases hcn : n < c
      · have k1 : (k : Int) < (c : Int) := by have := EK.out; omega
        have k2 : ¬ ((k : Int) < (n : Int)) := by have := EK.out; omega
        go_wp2
        go_ret
        exact ⟨_, rfl, FIN.out, HB.out⟩
      · have k1 : ¬ ((k : Int) < (c : Int)) := by have := EK.out; omega
        go_wp2
        go_ret
        exact ⟨_, rfl, FIN.out, HB.out⟩
end Go.Proofs.YtpadpmkfhljiiaaGreat
/- The document's 'bit' and 'word'. -/
namespace Go.Proofs.YtpadpmkfhljiiaaGreat
open Go.RowKit
/-- cells of 64 bits -/
def RowU (W : World) (b n : Nat) (v : Nat → Nat) : Prop := ∀ i, i < n → W.cell? ⟨b, i, none⟩ = some (.int .u64 (v i : Int)) ∧ W.frozen? ⟨b, i, none⟩ = false
theorem RowU.set {w : World} {b n : Nat} {v u : Nat → Nat} (h : RowU w b n v) (k x : Nat) (hk : u k = x) (ho : ∀ i, i < n → i ≠ k → u i = v i) : RowU (w.setCell ⟨b, k, none⟩ (.int .u64 (x : Int))) b n u := fun i hi => by
  refine ⟨?_, by rw [World.frozen?_setCell]; exact (h i hi).2⟩
  by_cases e : i = k
  · subst e; rw [World.cell?_setCell_same _ _ _ (h i hi).1, hk]
  · rw [World.cell?_setCell_other _ _ _ _ (by intro e'; injection e' with _ e' _; exact e e'.symm), ho i hi e]; exact (h i hi).1
/-- what limb q holds while the digits from j on are laid -/
def lw (d : Nat → Nat) (j q : Nat) : Nat := if 8 * q + 8 ≤ j then 0 else if j ≤ 8 * q then dsum (fun r => d (8 * q + r)) 8 else dsum (fun r => d (j + r)) (8 * q + 8 - j)
theorem lw_step (d : Nat → Nat) (j : Nat) : lw d j (j / 8) = lw d (j + 1) (j / 8) * 256 + d j := by
  obtain ⟨q, eq⟩ : ∃ q, q = j / 8 := ⟨_, rfl⟩
  rw [← eq]
  have e0 : ∀ k, dsum (fun r => d (j + r)) (k + 1) = dsum (fun r => d (j + 1 + r)) k * 256 + d j := fun k => by
    rw [dsum_front, Nat.add_zero, Nat.mul_comm, Nat.add_comm]
    congr 2
    apply congrFun
    apply congrArg
    funext r; rw [Nat.add_assoc]
  unfold lw
  rw [if_neg (by omega)]
  by_cases h1 : 8 * q + 8 ≤ j + 1
  · rw [if_pos h1]
    by_cases h2 : j ≤ 8 * q
    · omega
    · rw [if_neg h2, show 8 * q + 8 - j = 0 + 1 by omega, e0]; simp [dsum]
  · rw [if_neg h1, if_neg (show ¬ (j + 1 ≤ 8 * q) by omega)]
    by_cases h2 : j ≤ 8 * q
    · rw [if_pos h2]
      obtain rfl : j = 8 * q := by omega
      rw [show 8 * q + 8 - (8 * q + 1) = 7 by omega]; exact e0 7
    · rw [if_neg h2, show 8 * q + 8 - j = (8 * q + 8 - (j + 1)) + 1 by omega, e0]
theorem lw_other (d : Nat → Nat) (j i : Nat) (h : i ≠ j / 8) : lw d j i = lw d (j + 1) i := by
  unfold lw
  by_cases h1 : 8 * i + 8 ≤ j
  · rw [if_pos h1, if_pos (show 8 * i + 8 ≤ j + 1 by omega)]
  · have h1' : ¬ (8 * i + 8 ≤ j + 1) := by omega
    by_cases h2 : j ≤ 8 * i
    · have h2' : j + 1 ≤ 8 * i := by omega
      rw [if_neg h1, if_pos h2, if_neg h1', if_pos h2']
    · omega
theorem lw_lt {d : Nat → Nat} (hd : ∀ i, d i < 256) (j : Nat) : lw d (j + 1) (j / 8) < 72057594037927936 := by
  unfold lw
  split
  · omega
  · split
    · omega
    · have h := dsum_lt (d := fun r => d (j + 1 + r)) (fun i => hd _) (8 * (j / 8) + 8 - (j + 1))
      have h2 : 256 ^ (8 * (j / 8) + 8 - (j + 1)) ≤ 256 ^ 7 := Nat.pow_le_pow_right (by omega) (by omega)
      have h3 : (256 : Nat) ^ 7 = 72057594037927936 := by decide
      omega
theorem lw_end {d : Nat → Nat} (hd : ∀ i, d i < 256) : IsW (dsum d 32 : Int) (lw d 0 0 : Int) (lw d 0 1 : Int) (lw d 0 2 : Int) (lw d 0 3 : Int) := by
  have hl : ∀ q, lw d 0 q = dsum (fun r => d (8 * q + r)) 8 := fun q => by unfold lw; rw [if_neg (by omega), if_pos (by omega)]
  have hb : ∀ q, lw d 0 q < 18446744073709551616 := fun q => by
    rw [hl]
    have := dsum_lt (d := fun r => d (8 * q + r)) (fun i => hd _) 8
    have h3 : (256 : Nat) ^ 8 = 18446744073709551616 := by decide
    omega
  have hs : dsum d 32 = lw d 0 0 + 18446744073709551616 * (lw d 0 1 + 18446744073709551616 * (lw d 0 2 + 18446744073709551616 * lw d 0 3)) := by
    have a1 := dsum_split d 8 24
    have a2 := dsum_split (fun r => d (8 + r)) 8 16
    have a3 := dsum_split (fun r => d (16 + r)) 8 8
    have p8 : (256 : Nat) ^ 8 = 18446744073709551616 := by decide
    have c1 : (fun r => d (8 + (8 + r))) = fun r => d (16 + r) := by funext r; congr 1; omega
    have c2 : (fun r => d (16 + (8 + r))) = fun r => d (24 + r) := by funext r; congr 1; omega
    have l0 : lw d 0 0 = dsum d 8 := by rw [hl]; exact dsum_ext 8 fun i _ => by simp
    rw [hl 1, hl 2, hl 3, l0]
    simp only [p8] at a1 a2 a3
    rw [c1] at a2
    rw [c2] at a3
    rw [show 8 + 24 = 32 from rfl] at a1
    rw [show 8 + 16 = 24 from rfl] at a2
    rw [show 8 + 8 = 16 from rfl] at a3
    rw [a1, a2, a3]
  have h0 := hb 0
  have h1 := hb 1
  have h2 := hb 2
  have h3 := hb 3
  refine isW_of ⟨by omega, by unfold Bd; omega⟩ ⟨by omega, by unfold Bd; omega⟩ ⟨by omega, by unfold Bd; omega⟩ ⟨by omega, by unfold Bd; omega⟩ 0 ?_
  rw [hs]; unfold V Bd; omega
set_option maxHeartbeats 2000000 in
set_option maxRecDepth 100000 in
theorem word_is (w : World) (v : Value) (n : Nat) (d : Nat → Nat) (hv : RowAt w v n d) :
    Calls Tryz.prog 77 #[v] w fun e w' => ∃ s0 s1 s2 s3 : Int, e = .returned (.agg #[.int .u64 s0, .int .u64 s1, .int .u64 s2, .int .u64 s3]) ∧ IsW (dsum d 32 : Int) s0 s1 s2 s3 ∧ Below w.heap.size w w' := by
  have HV : Hid (RowAt w v n d) := hv
  have HD : Hid _ := hv.2.1
  clear hv
  have B0 : Hid (∀ o1 o2, Below w.heap.size w ((w.alloc o1).alloc o2)) := fun o1 o2 => ((Below.refl _ _).alloc (Nat.le_refl _) _).alloc (by simp) _
  have R0 : Hid (Box ((w.alloc (.cells #[.int .u64 0, .int .u64 0, .int .u64 0, .int .u64 0] 24)).alloc (.cells #[.int .u64 0, .int .u64 0, .int .u64 0, .int .u64 0] 24)) w.heap.size 0 0 0 0) := (Box.new w 24 0 0 0 0).alloc _
  have R1 : Hid (RowU ((w.alloc (.cells #[.int .u64 0, .int .u64 0, .int .u64 0, .int .u64 0] 24)).alloc (.cells #[.int .u64 0, .int .u64 0, .int .u64 0, .int .u64 0] 24)) (w.heap.size + 1) 4 (lw d 32)) := fun i hi => by
    have h := Box.new (w.alloc (.cells #[.int .u64 0, .int .u64 0, .int .u64 0, .int .u64 0] 24)) 24 0 0 0 0
    rw [World.size_alloc] at h
    have h2 := h.1 i hi
    have e : lw d 32 i = 0 := by unfold lw; rw [if_pos (by omega)]
    have e2 : limb 0 0 0 0 i = 0 := by unfold limb; split; rfl; split; rfl; split <;> rfl
    rw [e2] at h2
    exact ⟨by rw [h2, e]; rfl, h.2 i hi⟩
  go_enter Tryz.func77, Tryz.ntmps77
  go_wp2
  go_loopw [4] (fun s wr => ∃ j : Nat, s = .int .i64 ((j : Int) - 1) ∧ j ≤ 32 ∧ Below w.heap.size w wr ∧ Box wr w.heap.size 0 0 0 0 ∧ RowU wr (w.heap.size + 1) 4 (lw d j)) (fun s _ => (intOf s + 1).toNat)
  case atStart => exact ⟨32, rfl, by omega, B0.out _ _, R0.out, R1.out⟩
  case round =>
    obtain ⟨j, rfl, hj, hB, hbx, hR⟩ := hrel
    clear R0 R1 B0
    have HBx : Hid (Box wr w.heap.size 0 0 0 0) := hbx
    have HB : Hid (Below w.heap.size w wr) := hB
    have HRo : Hid (RowU wr (w.heap.size + 1) 4 (lw d j)) := hR
    clear hbx hB hR
    rcases j with _ | j
    · obtain ⟨r0, r1, r2, r3, f0, f1, f2, f3⟩ := Box.facts HBx.out
      have p0 := (HRo.out 0 (by omega)).1
      have p1 := (HRo.out 1 (by omega)).1
      have p2 := (HRo.out 2 (by omega)).1
      have p3 := (HRo.out 3 (by omega)).1
      have HE : Hid _ := lw_end HD.out
      generalize ((lw d 0 0 : Nat) : Int) = s0 at p0 HE
      generalize ((lw d 0 1 : Nat) : Int) = s1 at p1 HE
      generalize ((lw d 0 2 : Nat) : Int) = s2 at p2 HE
      generalize ((lw d 0 3 : Nat) : Int) = s3 at p3 HE
      go_wp2
      exact bodyPost_ret (v := .agg #[.int .u64 s0, .int .u64 s1, .int .u64 s2, .int .u64 s3]) (by simp [results, Tryz.results77, go_sem, r0, r1, r2, r3]) rfl ⟨s0, s1, s2, s3, rfl, HE.out, below_put HB.out (Nat.le_refl _) _ _ _ _⟩
    · rw [show ((j + 1 : Nat) : Int) - 1 = (j : Int) by omega]
      obtain ⟨q, eq⟩ : ∃ q : Nat, q = j / 8 := ⟨_, rfl⟩
      have t1 : Int.tdiv (j : Int) 8 = (q : Int) := by rw [Int.tdiv_eq_ediv_of_nonneg (by omega)]; omega
      have w1 : IntKind.i64.wrap (q : Int) = (q : Int) := by rw [IntKind.wrap_i64]; omega
      have jI : (0 : Int) ≤ (j : Int) := by omega
      have qI : (q : Int) < 4 := by omega
      have q4 : q < 4 := by omega
      have c1 := (HRo.out q q4).1
      have f1 := (HRo.out q q4).2
      have st := lw_step d j
      have lt := lw_lt HD.out j
      have hdj := HD.out j
      rw [← eq] at st lt
      obtain ⟨y, ey⟩ : ∃ y, y = d j := ⟨_, rfl⟩
      have DG : Hid (∀ W : World, Below w.heap.size w W → Calls Tryz.prog 123 #[v, .int .i64 (j : Int)] W fun e w' => e = .returned (.int .i64 (y : Int)) ∧ w' = W) := fun W hW => by rw [ey]; exact digit_is W v n d j (HV.out.below hW)
      rw [← ey] at st hdj
      obtain ⟨z, ez⟩ : ∃ z, z = lw d (j + 1) q := ⟨_, rfl⟩
      obtain ⟨u, eu⟩ : ∃ u, u = lw d j q := ⟨_, rfl⟩
      rw [← ez] at c1 st lt
      rw [← eu] at st
      have m1 : IntKind.u64.wrap ((z : Int) * 256) = ((z * 256 : Nat) : Int) := by rw [IntKind.wrap_u64]; omega
      have m2 : IntKind.u64.wrap (y : Int) = (y : Int) := by rw [IntKind.wrap_u64]; omega
      have m3 : IntKind.u64.wrap (((z * 256 : Nat) : Int) + (y : Int)) = (u : Int) := by rw [IntKind.wrap_u64]; omega
      have m4 : IntKind.u64.wrap ((z : Int) * 256 + (y : Int)) = (u : Int) := by rw [IntKind.wrap_u64]; omega
      have STEP : Hid (∀ W, Below w.heap.size w W → Box W w.heap.size 0 0 0 0 → RowU W (w.heap.size + 1) 4 (lw d (j + 1)) → Below w.heap.size w (W.setCell ⟨w.heap.size + 1, q, none⟩ (.int .u64 (u : Int))) ∧ Box (W.setCell ⟨w.heap.size + 1, q, none⟩ (.int .u64 (u : Int))) w.heap.size 0 0 0 0 ∧ RowU (W.setCell ⟨w.heap.size + 1, q, none⟩ (.int .u64 (u : Int))) (w.heap.size + 1) 4 (lw d j)) := fun W h1 h2 h3 =>
        ⟨h1.setCell (by simp) _, h2.other _ _ (by simp), h3.set q u eu.symm (fun i _ hi => lw_other d j i (by rw [← eq]; exact hi))⟩
      clear st lt hdj ey ez eu eq
      go_upto_region 5 with fail
      go_region_with (go_at_call 123; refine (DG.out _ (Below.drew HB.out)).mono ?_; rintro e0 w' ⟨rfl, hw⟩; (have hw2 := hw.symm); clear hw; subst hw2)
      all_goals
        go_wp2
        go_roundw
        case rel => exact ⟨j, rfl, by omega, Below.drew (STEP.out wr HB.out HBx.out HRo.out).1, Box.drew (STEP.out wr HB.out HBx.out HRo.out).2.1, (STEP.out wr HB.out HBx.out HRo.out).2.2⟩
        case measure => simp [intOf]
end Go.Proofs.YtpadpmkfhljiiaaGreat
/- The document's 'times': the plain product of two rows. -/
namespace Go.Proofs.YtpadpmkfhljiiaaGreat
open Go.RowKit
/-- cells of numbers, which may be written -/
def RowI (W : World) (g N : Nat) (f : Nat → Nat) : Prop := ∀ j, j < N → W.cell? ⟨g, j, none⟩ = some (.int .i64 (f j : Int)) ∧ W.frozen? ⟨g, j, none⟩ = false
theorem RowI.lt {W : World} {g N : Nat} {f : Nat → Nat} (h : RowI W g N f) (hN : 0 < N) : g < W.heap.size := World.block_lt_of_cell? W _ (h 0 hN).1
/-- one digit is turned -/
def setD (f : Nat → Nat) (s y : Nat) (j : Nat) : Nat := if j = s then y else f j
theorem RowI.set {w : World} {g N : Nat} {f : Nat → Nat} (h : RowI w g N f) (s y : Nat) : RowI (w.setCell ⟨g, s, none⟩ (.int .i64 (y : Int))) g N (setD f s y) := fun j hj => by
  refine ⟨?_, by rw [World.frozen?_setCell]; exact (h j hj).2⟩
  unfold setD
  by_cases e : j = s
  · subst e; rw [World.cell?_setCell_same _ _ _ (h j hj).1, if_pos rfl]
  · rw [World.cell?_setCell_other _ _ _ _ (by intro e'; injection e' with _ e' _; exact e e'.symm), if_neg e]; exact (h j hj).1
theorem dsum_set (f : Nat → Nat) (s y : Nat) : ∀ N, s < N → dsum (setD f s y) N + f s * 256 ^ s = dsum f N + y * 256 ^ s
  | 0, h => absurd h (by omega)
  | N + 1, h => by
    by_cases e : s = N
    · subst e
      rw [dsum, dsum, dsum_ext s (d := setD f s y) (e := f) (fun i hi => by unfold setD; rw [if_neg (by omega)])]
      simp only [setD, if_true]; omega
    · have := dsum_set f s y N (by omega)
      rw [dsum, dsum, show setD f s y N = f N by unfold setD; rw [if_neg (by omega)]]; omega
/-- the step of the product -/
theorem times_step {P D x c nn i k N : Nat} {f e : Nat → Nat} (hs : i + k < N) (hx : x = f (i + k)) (hnn : nn = x + D * e k + c) (h : dsum f N + c * 256 ^ (i + k) = P + D * 256 ^ i * dsum e k) :
    dsum (setD f (i + k) (nn % 256)) N + nn / 256 * 256 ^ (i + (k + 1)) = P + D * 256 ^ i * dsum e (k + 1) := by
  have h1 := dsum_set f (i + k) (nn % 256) N hs
  have h2 : nn / 256 * 256 ^ (i + (k + 1)) + nn % 256 * 256 ^ (i + k) = nn * 256 ^ (i + k) := by
    rw [show i + (k + 1) = (i + k) + 1 by omega, Nat.pow_succ, Nat.mul_comm (256 ^ (i + k)) 256, ← Nat.mul_assoc, ← Nat.add_mul]
    congr 1; omega
  have h3 : nn * 256 ^ (i + k) = f (i + k) * 256 ^ (i + k) + D * e k * 256 ^ (i + k) + c * 256 ^ (i + k) := by rw [hnn, hx, Nat.add_mul, Nat.add_mul]
  have h4 : D * 256 ^ i * dsum e (k + 1) = D * 256 ^ i * dsum e k + D * e k * 256 ^ (i + k) := by
    rw [dsum, Nat.mul_add, Nat.pow_add]
    congr 1
    rw [Nat.mul_assoc, Nat.mul_assoc, Nat.mul_left_comm (256 ^ i)]
  omega
theorem times_end {n m i c : Nat} {d e f : Nat → Nat} (N : Nat) (hd : ∀ i, d i < 256) (he : ∀ i, e i < 256) (hz : e m = 0) (h : dsum f N + c * 256 ^ (i + (m + 1)) = dsum d i * dsum e m + d i * 256 ^ i * dsum e (m + 1)) (_hn : i < n) :
    dsum f N = dsum d (i + 1) * dsum e m := by
  have e1 : dsum e (m + 1) = dsum e m := by rw [dsum, hz]; simp
  rw [e1, ← Nat.add_mul] at h
  have e2 : dsum d (i + 1) = dsum d i + d i * 256 ^ i := rfl
  rw [← e2] at h
  have b1 := dsum_lt hd (i + 1)
  have b2 := dsum_lt he m
  have b3 : dsum d (i + 1) * dsum e m < 256 ^ (i + (m + 1)) := by
    rw [show i + (m + 1) = (i + 1) + m by omega, Nat.pow_add]
    exact Nat.mul_lt_mul'' b1 b2
  rcases Nat.eq_zero_or_pos c with hc | hc
  · rw [hc] at h; omega
  · have : 1 * 256 ^ (i + (m + 1)) ≤ c * 256 ^ (i + (m + 1)) := Nat.mul_le_mul_right _ hc
    omega
theorem setD_lt {f : Nat → Nat} (hf : ∀ i, f i < 256) (s y i : Nat) (hy : y < 256) : setD f s y i < 256 := by unfold setD; split; exact hy; exact hf i
theorem RowAt.ofRowI {W : World} {g N c : Nat} {f : Nat → Nat} (h : RowI W g N f) (hf : ∀ i, f i < 256) (hN : N ≤ 1073741824) : RowAt W (.slice (some ⟨g, 0, none⟩) N c) N (cutD f N) :=
  ⟨fun i hi => by unfold cutD; rw [if_neg (by omega)], cutD_lt hf N, hN, _, c, rfl, fun _ => ⟨g, 0, rfl, fun i hi => by rw [Nat.zero_add, (h i hi).1]; unfold cutD; rw [if_pos hi]⟩⟩
theorem cutD_same (f : Nat → Nat) (N : Nat) : dsum (cutD f N) N = dsum f N := dsum_ext N fun i hi => by unfold cutD; rw [if_pos hi]
theorem made_at (N j : Nat) (h : j < N) : (madeCells #[Value.int .i64 0] (N * 1)).toList[j]? = some (.int .i64 0) := by
  simp [madeCells, h, Nat.mod_one]
theorem RowI.made {w1 : World} {B g N : Nat} (h : w1.ownsRow B 3 1 (.slice (some ⟨g, 0, none⟩) N N) N (madeCells #[Value.int .i64 0] (N * 1)).toList) : RowI w1 g N (fun _ => 0) := fun j hj =>
  ⟨by rw [h.cellAt j (by omega), made_at N j hj]; rfl, h.frozenAt j⟩
set_option maxHeartbeats 4000000 in
set_option maxRecDepth 100000 in
theorem times_is (w : World) (v u : Value) (n m : Nat) (d e : Nat → Nat) (hv : RowAt w v n d) (hu : RowAt w u m e) (hn : n ≤ 1000) (hm : m ≤ 1000) :
    Calls Tryz.prog 85 #[v, u] w fun r w' => ∃ x f, r = .returned x ∧ RowAt w' x (n + m + 1) f ∧ dsum f (n + m + 1) = dsum d n * dsum e m ∧ Below w.heap.size w w' := by
  have HV : Hid (RowAt w v n d) := hv
  have HU : Hid (RowAt w u m e) := hu
  obtain ⟨hz, hd, _, ad, cap, rfl, hc⟩ := hv
  obtain ⟨hz', hd', _, bd, cap', rfl, _⟩ := hu
  obtain ⟨i0, hi, hz0, hz1, hz2⟩ := info_parts Tryz.infoI
  have HC : Hid _ := hc
  have HD : Hid _ := hd
  have HE : Hid _ := hd'
  have HZ : Hid (e m = 0) := hz' m (Nat.le_refl _)
  obtain ⟨N, eN⟩ : ∃ N, N = n + m + 1 := ⟨_, rfl⟩
  rw [← eN]
  have ENN : Hid (N = n + m + 1) := eN
  obtain ⟨nm, enm⟩ : ∃ nm, nm = n + m := ⟨_, rfl⟩
  have a1 : (n : Int) + (m : Int) = (nm : Int) := by omega
  have a2 : (nm : Int) + 1 = (N : Int) := by omega
  have w1 : IntKind.i64.wrap (nm : Int) = (nm : Int) := by rw [IntKind.wrap_i64]; omega
  have w2 : IntKind.i64.wrap (N : Int) = (N : Int) := by rw [IntKind.wrap_i64]; omega
  have nI : (n : Int) ≤ 1000 := by omega
  have mI : (m : Int) ≤ 1000 := by omega
  have NI : N ≤ 2001 := by omega
  have N0 : 0 < N := by omega
  clear hz hz' hd hd' hc eN enm
  go_enter Tryz.func85, Tryz.ntmps85
  go_upto_region 2 with (at_make; refine wpList_make_full _ rfl _ _ 61 rfl w.heap.size 3 i0 (.int .i64 0) 1 Tryz.underlying61 hi hz0 hz1 .i64 .i64 _ _ N rfl rfl rfl rfl (by rw [hz2]; omega) (by unfold maxLen; omega) (Nat.le_refl _) ?_; intro v1 hown hgrow; (have R1 : Hid (RowI v1 w.heap.size N (fun _ => 0)) := RowI.made hown); (have B1 : Hid (Below w.heap.size w v1) := Below.grown (Below.refl _ _) hgrow (Nat.le_refl _) (fun k h => by cases h)); clear hown hgrow)
  go_wp2
  generalize hg : w.heap.size = g at R1 ⊢
  have HG : Hid (w.heap.size = g) := hg
  clear hg
  go_loopw [6] (fun s wr => ∃ (i : Nat) (f : Nat → Nat), i ≤ n ∧ s = .int .i64 i ∧ (∀ j, f j < 256) ∧ dsum f N = dsum d i * dsum e m ∧ RowI wr g N f ∧ Below w.heap.size w wr) (fun s _ => n - (intOf s).toNat)
  case atStart => exact ⟨0, fun _ => 0, by omega, rfl, fun _ => (by decide : (0 : Nat) < 256), by rw [dsum_zero N (fun _ _ => rfl)]; simp [dsum], R1.out, B1.out⟩
  case round =>
    obtain ⟨i, f, hin, rfl, hf, hs, hR, hB⟩ := hrel
    clear R1 B1
    by_cases hi5 : i < n
    · have iI : (i : Int) < (n : Int) := by omega
      have F0 : Hid _ := hf
      have S0 : Hid _ := hs
      have RR : Hid _ := hR
      have BB : Hid _ := hB
      obtain ⟨P, eP⟩ : ∃ P, P = dsum d i * dsum e m := ⟨_, rfl⟩
      obtain ⟨D, eD⟩ : ∃ D, D = d i := ⟨_, rfl⟩
      have D256 : D < 256 := by rw [eD]; exact HD.out i
      have EP : Hid (P = dsum d i * dsum e m) := eP
      have ED : Hid (D = d i) := eD
      obtain ⟨ga, oa, rfl, hcl⟩ := HC.out (by omega)
      have ca0 := hcl i hi5
      rw [← eD] at ca0
      have gal := World.block_lt_of_cell? w _ ca0
      have CA : Hid _ := ca0
      clear hf hs hR hB hcl eP eD
      go_wp2
      go_loopw [7, 8] (fun sc sk wx => ∃ (k c : Nat) (f : Nat → Nat), k ≤ m + 1 ∧ c < 256 ∧ sc = .int .i64 c ∧ sk = .int .i64 k ∧ (∀ j, f j < 256) ∧ dsum f N + c * 256 ^ (i + k) = P + D * 256 ^ i * dsum e k ∧ RowI wx g N f ∧ Below w.heap.size w wx) (fun _ sk _ => m + 1 - (intOf sk).toNat)
      case atStart => exact ⟨0, 0, f, by omega, by omega, rfl, rfl, F0.out, by rw [EP.out, S0.out]; simp [dsum], RR.out, BB.out⟩
      case round =>
        obtain ⟨k, c, h, hk, hc, rfl, rfl, hh, hs, hR, hB⟩ := hrel
        clear F0 S0 RR BB
        have HH : Hid (∀ j, h j < 256) := hh
        have HS : Hid _ := hs
        have HR : Hid (RowI wr g N h) := hR
        have HB : Hid (Below w.heap.size w wr) := hB
        by_cases hkm : k < m + 1
        · have kI : (k : Int) ≤ (m : Int) := by omega
          obtain ⟨s, es⟩ : ∃ s, s = i + k := ⟨_, rfl⟩
          have a3 : (i : Int) + (k : Int) = (s : Int) := by omega
          have w3 : IntKind.i64.wrap (s : Int) = (s : Int) := by rw [IntKind.wrap_i64]; omega
          have sN : s < N := by have := ENN.out; omega
          have sI : (s : Int) < (N : Int) := by omega
          obtain ⟨x, ex⟩ : ∃ x, x = h s := ⟨_, rfl⟩
          obtain ⟨y, ey⟩ : ∃ y, y = e k := ⟨_, rfl⟩
          have cx := (hR s sN).1
          have fx := (hR s sN).2
          rw [← ex] at cx
          have ca := (hB.cell (p := ⟨ga, oa + i, none⟩) gal).trans CA.out
          have DG : Hid (∀ W : World, Below w.heap.size w W → Calls Tryz.prog 123 #[.slice bd m cap', .int .i64 (k : Int)] W fun e w' => e = .returned (.int .i64 (y : Int)) ∧ w' = W) := fun W hW => by rw [ey]; exact digit_is W _ m e k (HU.out.below hW)
          have x256 : x < 256 := by rw [ex]; exact hh s
          have y256 : y < 256 := by rw [ey]; exact HE.out k
          obtain ⟨p, ep⟩ : ∃ p, p = D * y := ⟨_, rfl⟩
          have pb : p ≤ 65025 := by rw [ep]; exact Nat.mul_le_mul (show D ≤ 255 by omega) (show y ≤ 255 by omega)
          obtain ⟨nn, enn⟩ : ∃ nn, nn = x + p + c := ⟨_, rfl⟩
          have STEP : Hid (dsum (setD h s (nn % 256)) N + nn / 256 * 256 ^ (i + (k + 1)) = P + D * 256 ^ i * dsum e (k + 1)) := by
            have := times_step (f := h) (e := e) (P := P) (D := D) (x := x) (c := c) (nn := nn) (i := i) (k := k) (N := N) (by omega) (by rw [ex, es]) (by rw [enn, ep, ey]) HS.out
            unfold Hid
            rw [es]; exact this
          have b1 : (D : Int) * (y : Int) = (p : Int) := by rw [ep]; exact (Int.natCast_mul D y).symm
          have b2 : IntKind.i64.wrap (p : Int) = (p : Int) := by rw [IntKind.wrap_i64]; omega
          have b3 : (x : Int) + (p : Int) + (c : Int) = (nn : Int) := by omega
          have b4 : IntKind.i64.wrap (nn : Int) = (nn : Int) := by rw [IntKind.wrap_i64]; omega
          have b5 : IntKind.i64.wrap ((x : Int) + (p : Int)) = (x : Int) + (p : Int) := by rw [IntKind.wrap_i64]; omega
          have b6 : Int.tmod (nn : Int) 256 = ((nn % 256 : Nat) : Int) := by rw [Int.tmod_eq_emod_of_nonneg (by omega)]; omega
          have b7 : Int.tdiv (nn : Int) 256 = ((nn / 256 : Nat) : Int) := by rw [Int.tdiv_eq_ediv_of_nonneg (by omega)]; omega
          have nb : nn ≤ 65535 := by omega
          obtain ⟨r, er⟩ : ∃ r, r = nn % 256 := ⟨_, rfl⟩
          obtain ⟨c', ec'⟩ : ∃ c', c' = nn / 256 := ⟨_, rfl⟩
          rw [← er] at b6 STEP
          rw [← ec'] at b7 STEP
          have b8 : IntKind.i64.wrap (r : Int) = (r : Int) := by rw [IntKind.wrap_i64]; omega
          have b9 : IntKind.i64.wrap (c' : Int) = (c' : Int) := by rw [IntKind.wrap_i64]; omega
          have r256 : r < 256 := by omega
          have c256 : c' < 256 := by omega
          have nnI : (nn : Int) ≤ 65535 := by omega
          clear er ec' enn ep ex ey es hs hh hR hB pb
          go_upto_region 9 with fail
          go_quiet ((go_at_call 123; exact Calls.quiet_of_same (DG.out _ (bdrewN HB.out _))))
          go_wp2
          go_roundw
          case rel => exact ⟨k + 1, c', setD h s r, by omega, c256, rfl, by go_num, fun j => setD_lt HH.out s r j r256, STEP.out, RowI.set (fun j hj => HR.out j hj) s r, Below.setCell (bdrewN HB.out nq) (Nat.le_of_eq HG.out) _⟩
          case measure => simp [intOf]; omega
        · obtain rfl : k = m + 1 := by omega
          have kI : ¬ (((m + 1 : Nat) : Int) ≤ (m : Int)) := by omega
          have FSu : Hid (dsum h N = dsum d (i + 1) * dsum e m) := times_end (n := n) N HD.out HE.out HZ.out (by rw [← ED.out, ← EP.out]; exact HS.out) hi5
          clear hs hh hR hB HS
          go_wp2
          go_roundw
          case rel => exact ⟨i + 1, h, by omega, by go_num, HH.out, FSu.out, HR.out, HB.out⟩
          case measure => simp [intOf]; omega
    · obtain rfl : i = n := by omega
      have iI : ¬ ((i : Int) < (i : Int)) := by omega
      have F0 : Hid _ := hf
      have S0 : Hid _ := hs
      have RR : Hid (RowI wr g N f) := hR
      have BB : Hid _ := hB
      clear hf hs hR hB
      go_wp2
      go_ret
      exact ⟨_, rfl, cutD f N, RowAt.ofRowI RR.out F0.out (by omega), by rw [cutD_same]; exact S0.out, BB.out⟩
end Go.Proofs.YtpadpmkfhljiiaaGreat
/- The document's Exp. -/
namespace Go.Proofs.YtpadpmkfhljiiaaGreat
open Go.RowKit
theorem MM_nat : ((256 ^ 32 : Nat) : Int) = MM := by decide
structure RExp (w : World) (a1 a2 : Value) (X Y : Nat) (W : World) : Prop where
  bel : Below w.heap.size w W
  br : Box W (w.heap.size + 1 + 1) 0 0 0 0
  re : RowAt W a1 32 (dig Y)
  ry : RowAt W a2 32 (dig X)
theorem RExp.past {w W W' : World} {a1 a2 : Value} {X Y : Nat} (h : RExp w a1 a2 X Y W) (k : Below W.heap.size W W') : RExp w a1 a2 X Y W' :=
  ⟨h.bel.trans (k.mono h.bel.size), h.br.below k h.br.lt, h.re.below k, h.ry.below k⟩
end Go.Proofs.YtpadpmkfhljiiaaGreat
/- word.read: digits of a base as a number. -/
namespace Go.Proofs.YtpadpmkfhljiiaaGreat
open Go.RowKit
/-- the signs of a text -/
def sg (s : ByteArray) (i : Nat) : Nat := (s[i]?.map UInt8.toNat).getD 0
theorem sg_at (s : ByteArray) (i : Nat) (h : i < s.size) : ∃ b, s[i]? = some b ∧ b.toNat = sg s i := by
  refine ⟨s[i], by simp [h], ?_⟩
  simp [sg, h]
theorem sg_lt (s : ByteArray) (i : Nat) : sg s i < 256 := by
  unfold sg
  cases h : s[i]? with
  | none => simp
  | some b => simpa using UInt8.toNat_lt b
/-- the number that the first digits are -/
def rdn (B : Nat) (c : Nat → Nat) : Nat → Nat
  | 0 => 0
  | k + 1 => rdn B c k * B + digv (c k)
theorem rdn_mono {B : Nat} (hB : 0 < B) (c : Nat → Nat) (k : Nat) : ∀ n, k ≤ n → rdn B c k ≤ rdn B c n
  | 0, h => by rw [show k = 0 by omega]; exact Nat.le_refl _
  | n + 1, h => by
    by_cases e : k = n + 1
    · rw [e]; exact Nat.le_refl _
    · have h1 := rdn_mono hB c k n (by omega)
      have h2 : rdn B c n * 1 ≤ rdn B c n * B := Nat.mul_le_mul_left _ hB
      rw [rdn]; omega
/-- is it a number of that base that fits a word? -/
def Reads (B : Nat) (c : Nat → Nat) (n : Nat) : Prop := (∀ i, i < n → digv (c i) < B) ∧ rdn B c n < 256 ^ 32
def RDRES (B : Nat) (c : Nat → Nat) (n : Nat) (w : World) (e : Ending) (w' : World) : Prop := ∃ p0 p1 p2 p3 er : Int, e = .returned (.tuple #[.agg #[.int .u64 p0, .int .u64 p1, .int .u64 p2, .int .u64 p3], .int .i64 er]) ∧ Below w.heap.size w w' ∧ ((Reads B c n ∧ er = 0 ∧ IsW (rdn B c n : Int) p0 p1 p2 p3) ∨ (¬ Reads B c n ∧ er = 10 ∧ p0 = 0 ∧ p1 = 0 ∧ p2 = 0 ∧ p3 = 0))
set_option maxHeartbeats 4000000 in
set_option maxRecDepth 100000 in
theorem read_is (s : ByteArray) (n : Nat) (hs : s.size = n) (B : Nat) (hB : 1 < B ∧ B < 200) (most : Nat) (h1 : 0 < n) (h2 : n ≤ most) (h3 : most ≤ 100) (w : World) :
    Calls Tryz.prog 116 #[.string s, .int .u64 (B : Int), .int .i64 (most : Int)] w (RDRES B (sg s) n w) := by
  have nz : ((n : Int) == 0) = false := by simp; omega
  have nz2 : ¬ (n : Int) = 0 := by omega
  have nm : ¬ (most : Int) < (n : Int) := by omega
  have hsz : (s.size : Int) = (n : Int) := by omega
  have HS : Hid (s.size = n ∧ 1 < B ∧ B < 200 ∧ 0 < n ∧ n ≤ 100) := ⟨hs, hB.1, hB.2, h1, by omega⟩
  have K0 : Hid (Bx w [(w.heap.size, 0, 0, 0, 0)] (w.alloc (.cells #[.int .u64 0, .int .u64 0, .int .u64 0, .int .u64 0] 24))) := (Bx.start w).alloc 0 0 0 0
  clear hs
  go_enter Tryz.func116, Tryz.ntmps116
  go_upto_region 1 with fail
  generalize w.alloc (.cells #[.int .u64 0, .int .u64 0, .int .u64 0, .int .u64 0] 24) = W0 at K0 ⊢
  go_upto_region 4 with fail
  have K1 : Hid (Bx w [(W0.heap.size, 0, 0, 0, 0), (w.heap.size, 0, 0, 0, 0)] (W0.alloc (.cells #[.int .u64 0, .int .u64 0, .int .u64 0, .int .u64 0] 24)) ∧ w.heap.size < W0.heap.size) := ⟨K0.out.alloc 0 0 0 0, K0.out.lt _ mm0⟩
  generalize W0.alloc (.cells #[.int .u64 0, .int .u64 0, .int .u64 0, .int .u64 0] 24) = W1 at K1 ⊢
  generalize W0.heap.size = bx at K1 ⊢
  clear K0
  have lb := K1.out.2
  go_wp2
  go_loopw [24] (fun s24 wr => ∃ (k : Nat) (l0 l1 l2 l3 : Int), s24 = .int .i64 (k : Int) ∧ k ≤ n ∧ (∀ i, i < k → digv (sg s i) < B) ∧ rdn B (sg s) k < 256 ^ 32 ∧ IsW (rdn B (sg s) k : Int) l0 l1 l2 l3 ∧ Bx w [(bx, l0, l1, l2, l3), (w.heap.size, 0, 0, 0, 0)] wr) (fun s24 _ => n - (intOf s24).toNat)
  case atStart => exact ⟨0, 0, 0, 0, 0, rfl, by omega, fun i hi => absurd hi (by omega), by rw [rdn]; decide, by rw [rdn]; exact isW_0, K1.out.1⟩
  case round =>
    obtain ⟨k, l0, l1, l2, l3, rfl, hk, hd, hlt, hW, hX⟩ := hrel
    clear K1
    have HDg : Hid (∀ i, i < k → digv (sg s i) < B) := hd
    have HLt : Hid (rdn B (sg s) k < 256 ^ 32) := hlt
    have HWd : Hid (IsW (rdn B (sg s) k : Int) l0 l1 l2 l3) := hW
    have HXx : Hid (Bx w [(bx, l0, l1, l2, l3), (w.heap.size, 0, 0, 0, 0)] wr) := hX
    clear hd hlt hW hX
    by_cases hk5 : k < n
    · have kI : (k : Int) < (n : Int) := by omega
      obtain ⟨b, hb1, hb2⟩ := sg_at s k (by have := HS.out.1; omega)
      obtain ⟨c, ec⟩ : ∃ c, c = sg s k := ⟨_, rfl⟩
      have hix : ∀ W : World, Sem.run Tryz.prog (Instr.index 9 (.string s) (.int .i64 (k : Int))) W = .ok (.int .u8 (c : Int)) W := fun W => by
        have hlt : k < s.size := by have := HS.out.1; omega
        rw [run_index_string W 9 s .i64 (k : Int) Tryz.underlying9, dif_pos ⟨by omega, by omega⟩]
        have e : s[k]? = some s[k] := by simp [hlt]
        rw [e] at hb1
        have e2 := Option.some.inj hb1
        simp only [Int.toNat_natCast]
        rw [e2, hb2, ec]
      obtain ⟨d, ed⟩ : ∃ d, d = digv c := ⟨_, rfl⟩
      have DG : Hid (∀ W : World, Calls Tryz.prog 171 #[.int .u8 (c : Int)] W fun e w' => e = .returned (.int .u64 (d : Int)) ∧ w' = W) := fun W => by rw [ed]; exact digitOf_is c (by rw [ec]; exact sg_lt s k) W
      have ED : Hid (d = digv (sg s k)) := by rw [← ec]; exact ed
      clear hb1 hb2 ec ed
      by_cases hdB : d < B
      · have i1 : ¬ (B : Int) ≤ (d : Int) := by omega
        have hw := HWd.out
        obtain ⟨q0, q1, q2, q3, h, ⟨v0, v1, v2, v3, vh⟩, hN, LE⟩ := lengthen_is l0 l1 l2 l3 (B : Int) (d : Int) hw.u0 hw.u1 hw.u2 hw.u3 ⟨by omega, by unfold Bd; have := HS.out; omega⟩ ⟨by omega, by unfold Bd; have := HS.out; omega⟩
        have HLE : Hid _ := LE
        have hV : V l0 l1 l2 l3 = ((rdn B (sg s) k : Nat) : Int) := hw.2.trans (Int.emod_eq_of_lt (by omega) (by rw [← MM_nat]; exact_mod_cast HLt.out))
        have NX : Hid (((rdn B (sg s) (k + 1) : Nat) : Int) = V q0 q1 q2 q3 + MM * h) := by
          have h1 := hN.out
          rw [hV, ED.out] at h1
          unfold Hid
          rw [rdn, Int.natCast_add, Int.natCast_mul]; exact h1
        have VR := V_range v0 v1 v2 v3
        have HVR : Hid (0 ≤ V q0 q1 q2 q3 ∧ V q0 q1 q2 q3 < MM ∧ 0 ≤ h ∧ U64 q0 ∧ U64 q1 ∧ U64 q2 ∧ U64 q3) := ⟨VR.1, VR.2, vh.1, v0, v1, v2, v3⟩
        obtain ⟨c0, c1, c2, c3, z0, z1, z2, z3⟩ := HXx.out.f0 mm0
        clear hw LE hN hV VR
        by_cases hh : h = 0
        · subst hh
          go_wp2_with (first
            | (go_at_call 171; refine (DG.out _).mono ?_; rintro e w' ⟨rfl, hw⟩; (have hw2 := hw.symm); clear hw; subst hw2)
            | (go_at_call 172; refine (HLE.out _).mono ?_; rintro e y1 ⟨rfl, hB⟩; (have J1 : Hid (Bx w [(bx, l0, l1, l2, l3), (w.heap.size, 0, 0, 0, 0)] y1) := HXx.out.past hB); clear hB c0 c1 c2 c3 z0 z1 z2 z3; obtain ⟨c0, c1, c2, c3, z0, z1, z2, z3⟩ := J1.out.f0 mm0))
          have J2 : Hid _ := Bx.put J1.out (by intro p hp; simp only [List.mem_cons, List.not_mem_nil, or_false] at hp; rcases hp with rfl; simp; omega) q0 q1 q2 q3
          go_roundw
          case rel => exact ⟨k + 1, q0, q1, q2, q3, by go_num, by omega, fun i hi => by
            by_cases e : i = k
            · rw [e, ← ED.out]; exact hdB
            · exact HDg.out i (by omega), by have h1 := NX.out; have h2 := HVR.out; rw [Int.mul_zero, Int.add_zero] at h1; rw [← MM_nat] at h2; omega, by
              have h1 := NX.out
              have h2 := HVR.out
              rw [Int.mul_zero, Int.add_zero] at h1
              rw [h1]
              exact ⟨⟨h2.2.2.2.1, h2.2.2.2.2.1, h2.2.2.2.2.2.1, h2.2.2.2.2.2.2⟩, (Int.emod_eq_of_lt h2.1 h2.2.1).symm⟩, J2.out⟩
          case measure => simp [intOf]; omega
        · have h01 : (h == 0) = false := by simpa using hh
          go_wp2_with (first
            | (go_at_call 171; refine (DG.out _).mono ?_; rintro e w' ⟨rfl, hw⟩; (have hw2 := hw.symm); clear hw; subst hw2)
            | (go_at_call 172; refine (HLE.out _).mono ?_; rintro e y1 ⟨rfl, hB⟩; (have J1 : Hid (Bx w [(bx, l0, l1, l2, l3), (w.heap.size, 0, 0, 0, 0)] y1) := HXx.out.past hB); clear hB c0 c1 c2 c3 z0 z1 z2 z3; obtain ⟨c0, c1, c2, c3, z0, z1, z2, z3⟩ := J1.out.f0 mm0; obtain ⟨r0, r1, r2, r3, f0, f1, f2, f3⟩ := J1.out.f0 mm1))
          have low := J1.out.low (bx, l0, l1, l2, l3) mm0
          have NR : ¬ Reads B (sg s) n := fun hR => by
            have h1 := NX.out
            have h2 := HVR.out
            have h3 := rdn_mono (show 0 < B by have := HS.out; omega) (sg s) (k + 1) n (by omega)
            have h4 := hR.2
            have h5 : MM * 1 ≤ MM * h := Int.mul_le_mul_of_nonneg_left (by omega) (Int.le_of_lt MM_pos)
            rw [← MM_nat] at h1 h5
            omega
          exact bodyPost_ret (v := .tuple #[.agg #[.int .u64 0, .int .u64 0, .int .u64 0, .int .u64 0], .int .i64 10]) (by simp [results, Tryz.results116, go_sem, r0, r1, r2, r3]) rfl ⟨0, 0, 0, 0, 10, rfl, below_put (below_put J1.out.bel low _ _ _ _) (Nat.le_refl _) _ _ _ _, Or.inr ⟨NR, rfl, rfl, rfl, rfl, rfl⟩⟩
      · have i1 : (B : Int) ≤ (d : Int) := by omega
        obtain ⟨r0, r1, r2, r3, f0, f1, f2, f3⟩ := HXx.out.f0 mm1
        have NR : Hid (¬ Reads B (sg s) n) := fun hR => by
          have := hR.1 k hk5
          rw [← ED.out] at this
          omega
        go_wp2_with (go_at_call 171; refine (DG.out _).mono ?_; rintro e w' ⟨rfl, hw⟩; (have hw2 := hw.symm); clear hw; subst hw2)
        exact bodyPost_ret (v := .tuple #[.agg #[.int .u64 0, .int .u64 0, .int .u64 0, .int .u64 0], .int .i64 10]) (by simp [results, Tryz.results116, go_sem, r0, r1, r2, r3]) rfl ⟨0, 0, 0, 0, 10, rfl, below_put HXx.out.bel (Nat.le_refl _) _ _ _ _, Or.inr ⟨NR.out, rfl, rfl, rfl, rfl, rfl⟩⟩
    · obtain rfl : k = n := by omega
      obtain ⟨c0, c1, c2, c3, _⟩ := HXx.out.f0 mm0
      obtain ⟨r0, r1, r2, r3, f0, f1, f2, f3⟩ := HXx.out.f0 mm1
      go_wp2
      exact bodyPost_ret (v := .tuple #[.agg #[.int .u64 l0, .int .u64 l1, .int .u64 l2, .int .u64 l3], .int .i64 0]) (by simp [results, Tryz.results116, go_sem, r0, r1, r2, r3]) rfl ⟨l0, l1, l2, l3, 0, rfl, below_put HXx.out.bel (Nat.le_refl _) _ _ _ _, Or.inl ⟨⟨HDg.out, HLt.out⟩, rfl, HWd.out⟩⟩
end Go.Proofs.YtpadpmkfhljiiaaGreat
