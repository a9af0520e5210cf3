/- Word by word: the program's SDiv, SMod, SLt, SGt and the document's give the same. -/
import Derived.Test.YtpadpmkfhljiiaaGreatMs11
import Derived.Test.YtpadpmkfhljiiaaGreatMs12
import Derived.Test.YtpadpmkfhljiiaaGreatMs10
import Derived.Test.YtpadpmkfhljiiaaGreatMs2
import Derived.Test.YtpadpmkfhljiiaaGreatMs4
import Derived.Test.YtpadpmkfhljiiaaGreatMs1
namespace Go.Proofs.YtpadpmkfhljiiaaGreat
open Go.RowKit
/-- two functions give the same truth -/
def PairB (f g : Nat) (args : Array Value) : Prop := ∃ r : Bool, (∀ w : World, Calls Tryz.prog f args w fun e w' => e = .returned (.bool r) ∧ Below w.heap.size w w') ∧ (∀ w : World, Calls Tryz.prog g args w fun e w' => e = .returned (.bool r) ∧ Below w.heap.size w w')
theorem MM_half : MM / 2 = 57896044618658097711785492504343953926634992332820282019728792003956564819968 := by unfold MM; decide
theorem MM_val : MM = 115792089237316195423570985008687907853269984665640564039457584007913129639936 := rfl
theorem p255 : (2 : Nat) ^ 255 = 57896044618658097711785492504343953926634992332820282019728792003956564819968 := by decide
theorem top_bit {X : Nat} (h : X < 256 ^ 32) : bitf X 255 = if 57896044618658097711785492504343953926634992332820282019728792003956564819968 ≤ X then 1 else 0 := by
  rw [p256n] at h
  unfold bitf
  rw [p255]
  split <;> omega
/-- a word without its sign, by either side -/
theorem sgn {x : Int} {a0 a1 a2 a3 : Int} (ha : IsW x a0 a1 a2 a3) : ∃ (X U : Nat) (s : Bool) (u0 u1 u2 u3 : Int), V a0 a1 a2 a3 = (X : Int) ∧ (X : Int) = x % MM ∧ IsW (U : Int) u0 u1 u2 u3 ∧ U < 256 ^ 32 ∧ (s = true → U + X = 256 ^ 32 ∧ 0 < U ∧ bitf X 255 = 1) ∧ (s = false → U = X ∧ bitf X 255 = 0) ∧ decide (MM / 2 ≤ x % MM) = s ∧
    (∀ w : World, Calls Tryz.prog 91 #[.agg #[.int .u64 a0, .int .u64 a1, .int .u64 a2, .int .u64 a3]] w fun e w' => e = .returned (.bool s) ∧ Below w.heap.size w w') ∧
    (∀ w : World, Calls Tryz.prog 90 #[.agg #[.int .u64 a0, .int .u64 a1, .int .u64 a2, .int .u64 a3]] w fun e w' => e = .returned (.agg #[.int .u64 u0, .int .u64 u1, .int .u64 u2, .int .u64 u3]) ∧ Below w.heap.size w w') ∧
    (∀ w : World, Calls Tryz.prog 95 #[.agg #[.int .u64 a0, .int .u64 a1, .int .u64 a2, .int .u64 a3]] w fun e w' => e = .returned (.bool s) ∧ Below w.heap.size w w') ∧
    (∀ w : World, Calls Tryz.prog 93 #[.agg #[.int .u64 a0, .int .u64 a1, .int .u64 a2, .int .u64 a3]] w fun e w' => ∃ v, e = .returned v ∧ RowIs w' v 33 U ∧ Below w.heap.size w w') := by
  obtain ⟨X, hX, eX, lX⟩ := mod_nat ha
  have tb := top_bit lX
  have hN := negative_any x a0 a1 a2 a3
  have l2 := lX
  rw [p256n] at l2
  by_cases hn : MM / 2 ≤ x % MM
  · have hn2 := hn
    rw [← eX, MM_half] at hn2
    rw [if_pos (by omega)] at tb
    obtain ⟨u0, u1, u2, u3, iu⟩ := isW_ex (0 - x)
    have NE : ∀ w : World, Calls Tryz.prog 91 #[.agg #[.int .u64 a0, .int .u64 a1, .int .u64 a2, .int .u64 a3]] w fun e w' => e = .returned (.bool true) ∧ Below w.heap.size w w' := fun w => by have := hN w ha; simpa [hn] using this
    have NR : ∀ w : World, Calls Tryz.prog 95 #[.agg #[.int .u64 a0, .int .u64 a1, .int .u64 a2, .int .u64 a3]] w fun e w' => e = .returned (.bool true) ∧ Below w.heap.size w w' := negative_t a0 a1 a2 a3 X (fun W => of_is x a0 a1 a2 a3 W ha X hX) tb
    have SU : ∀ w : World, Calls Tryz.prog 13 #[.agg #[.int .u64 0, .int .u64 0, .int .u64 0, .int .u64 0], .agg #[.int .u64 a0, .int .u64 a1, .int .u64 a2, .int .u64 a3]] w fun e w' => e = .returned (.agg #[.int .u64 u0, .int .u64 u1, .int .u64 u2, .int .u64 u3]) ∧ Below w.heap.size w w' := fun w => sub_is 0 x 0 0 0 0 a0 a1 a2 a3 u0 u1 u2 u3 w isW_0 ha iu
    refine ⟨X, 256 ^ 32 - X, true, u0, u1, u2, u3, hX, eX, iu.cong ?_, by rw [p256n]; omega, fun _ => ⟨by rw [p256n]; omega, by rw [p256n]; omega, tb⟩, fun h => (by cases h), by simpa using hn, NE, magnitude_t a0 a1 a2 a3 u0 u1 u2 u3 NE (negate_c a0 a1 a2 a3 u0 u1 u2 u3 SU), NR, rsize_t a0 a1 a2 a3 X (ri_of ha hX) NR (Nat.le_of_lt lX)⟩
    rw [Int.ofNat_sub (Nat.le_of_lt lX), MM_nat, eX, show MM - x % MM = (0 - x % MM) + MM by omega, Int.add_emod_right, Int.sub_emod_emod]
  · have hn2 := hn
    rw [← eX, MM_half] at hn2
    rw [if_neg (by omega)] at tb
    have NE : ∀ w : World, Calls Tryz.prog 91 #[.agg #[.int .u64 a0, .int .u64 a1, .int .u64 a2, .int .u64 a3]] w fun e w' => e = .returned (.bool false) ∧ Below w.heap.size w w' := fun w => by have := hN w ha; simpa [hn] using this
    have NR : ∀ w : World, Calls Tryz.prog 95 #[.agg #[.int .u64 a0, .int .u64 a1, .int .u64 a2, .int .u64 a3]] w fun e w' => e = .returned (.bool false) ∧ Below w.heap.size w w' := negative_f a0 a1 a2 a3 X (fun W => of_is x a0 a1 a2 a3 W ha X hX) tb
    exact ⟨X, X, false, a0, a1, a2, a3, hX, eX, ha.cong (mod_lit eX), lX, fun h => (by cases h), fun _ => ⟨rfl, tb⟩, by simpa using hn, NE, magnitude_f a0 a1 a2 a3 NE, NR, rsize_f a0 a1 a2 a3 X (ri_of ha hX) NR⟩
theorem neg_word {q : Nat} {z0 z1 z2 z3 : Int} (h : IsW (0 - (q : Int)) z0 z1 z2 z3) : IsW ((256 ^ 32 - q % 256 ^ 32 : Nat) : Int) z0 z1 z2 z3 := by
  refine h.cong ?_
  have hl : q % 256 ^ 32 < 256 ^ 32 := Nat.mod_lt _ (by decide)
  rw [Int.ofNat_sub (Nat.le_of_lt hl), MM_nat, Int.natCast_emod, MM_nat, show MM - (q : Int) % MM = (0 - (q : Int) % MM) + MM by omega, Int.add_emod_right, Int.sub_emod_emod]
theorem nat_small {U : Nat} (h : U < 256 ^ 32) : (U : Int) % MM = (U : Int) := Int.emod_eq_of_lt (by omega) (by rw [← MM_nat]; exact_mod_cast h)
theorem pair_sdiv {x y : Int} {a0 a1 a2 a3 b0 b1 b2 b3 : Int} (ha : IsW x a0 a1 a2 a3) (hb : IsW y b0 b1 b2 b3) : Pair 22 23 #[.agg #[.int .u64 a0, .int .u64 a1, .int .u64 a2, .int .u64 a3], .agg #[.int .u64 b0, .int .u64 b1, .int .u64 b2, .int .u64 b3]] := by
  obtain ⟨X, U, s, u0, u1, u2, u3, hX, eX, iU, lU, sT, sF, _, NA, MA, RA, SA⟩ := sgn ha
  obtain ⟨Y, T, t, v0, v1, v2, v3, hY, eY, iT, lT, tT, tF, _, NB, MB, RB, SB⟩ := sgn hb
  obtain ⟨q0, q1, q2, q3, iq⟩ := isW_ex ((U / T : Nat) : Int)
  obtain ⟨z0, z1, z2, z3, iz⟩ := isW_ex (0 - ((U / T : Nat) : Int))
  have DI : ∀ w : World, Calls Tryz.prog 17 #[.agg #[.int .u64 u0, .int .u64 u1, .int .u64 u2, .int .u64 u3], .agg #[.int .u64 v0, .int .u64 v1, .int .u64 v2, .int .u64 v3]] w fun e w' => e = .returned (.agg #[.int .u64 q0, .int .u64 q1, .int .u64 q2, .int .u64 q3]) ∧ Below w.heap.size w w' := fun w => div_is (U : Int) (T : Int) u0 u1 u2 u3 v0 v1 v2 v3 q0 q1 q2 q3 w iU iT (by rw [nat_small lU, nat_small lT, dv, ← Int.natCast_ediv]; exact iq)
  have N1 := negate_c q0 q1 q2 q3 z0 z1 z2 z3 (fun w => sub_is 0 _ 0 0 0 0 q0 q1 q2 q3 z0 z1 z2 z3 w isW_0 iq iz)
  by_cases hz : T = 0
  · subst hz
    rw [Nat.div_zero] at iq iz
    obtain ⟨rfl, rfl, rfl, rfl⟩ := iq.eq isW_0 rfl
    obtain ⟨rfl, rfl, rfl, rfl⟩ := iz.eq isW_0 rfl
    refine ⟨0, 0, 0, 0, ?_, rsdiv_z a0 a1 a2 a3 b0 b1 b2 b3 U 0 SA SB (by decide)⟩
    cases s <;> cases t
    · exact sdiv_00 a0 a1 a2 a3 b0 b1 b2 b3 u0 u1 u2 u3 v0 v1 v2 v3 0 0 0 0 MA MB DI NA NB
    · exact sdiv_01 a0 a1 a2 a3 b0 b1 b2 b3 u0 u1 u2 u3 v0 v1 v2 v3 0 0 0 0 0 0 0 0 MA MB DI NA NB N1
    · exact sdiv_10 a0 a1 a2 a3 b0 b1 b2 b3 u0 u1 u2 u3 v0 v1 v2 v3 0 0 0 0 0 0 0 0 MA MB DI NA NB N1
    · exact sdiv_11 a0 a1 a2 a3 b0 b1 b2 b3 u0 u1 u2 u3 v0 v1 v2 v3 0 0 0 0 MA MB DI NA NB
  · have h1 : decide (T = 0) = false := by simpa using hz
    have h2 : 0 < T := by omega
    cases s <;> cases t
    · exact ⟨q0, q1, q2, q3, sdiv_00 a0 a1 a2 a3 b0 b1 b2 b3 u0 u1 u2 u3 v0 v1 v2 v3 q0 q1 q2 q3 MA MB DI NA NB, rsdiv_00 a0 a1 a2 a3 b0 b1 b2 b3 q0 q1 q2 q3 U T SA SB h1 h2 RA RB iq⟩
    · exact ⟨z0, z1, z2, z3, sdiv_01 a0 a1 a2 a3 b0 b1 b2 b3 u0 u1 u2 u3 v0 v1 v2 v3 q0 q1 q2 q3 z0 z1 z2 z3 MA MB DI NA NB N1, rsdiv_01 a0 a1 a2 a3 b0 b1 b2 b3 z0 z1 z2 z3 U T SA SB h1 h2 RA RB (neg_word iz)⟩
    · exact ⟨z0, z1, z2, z3, sdiv_10 a0 a1 a2 a3 b0 b1 b2 b3 u0 u1 u2 u3 v0 v1 v2 v3 q0 q1 q2 q3 z0 z1 z2 z3 MA MB DI NA NB N1, rsdiv_10 a0 a1 a2 a3 b0 b1 b2 b3 z0 z1 z2 z3 U T SA SB h1 h2 RA RB (neg_word iz)⟩
    · exact ⟨q0, q1, q2, q3, sdiv_11 a0 a1 a2 a3 b0 b1 b2 b3 u0 u1 u2 u3 v0 v1 v2 v3 q0 q1 q2 q3 MA MB DI NA NB, rsdiv_11 a0 a1 a2 a3 b0 b1 b2 b3 q0 q1 q2 q3 U T SA SB h1 h2 RA RB iq⟩
theorem pair_smod {x y : Int} {a0 a1 a2 a3 b0 b1 b2 b3 : Int} (ha : IsW x a0 a1 a2 a3) (hb : IsW y b0 b1 b2 b3) : Pair 24 25 #[.agg #[.int .u64 a0, .int .u64 a1, .int .u64 a2, .int .u64 a3], .agg #[.int .u64 b0, .int .u64 b1, .int .u64 b2, .int .u64 b3]] := by
  obtain ⟨X, U, s, u0, u1, u2, u3, hX, eX, iU, lU, sT, sF, _, NA, MA, RA, SA⟩ := sgn ha
  obtain ⟨Y, T, t, v0, v1, v2, v3, hY, eY, iT, lT, tT, tF, _, NB, MB, RB, SB⟩ := sgn hb
  obtain ⟨R, hR⟩ : ∃ R : Nat, md (U : Int) (T : Int) = (R : Int) := ⟨if T = 0 then 0 else U % T, by unfold md; by_cases h : T = 0; simp [h]; rw [if_neg (by omega), if_neg h, Int.natCast_emod]⟩
  obtain ⟨q0, q1, q2, q3, iq⟩ := isW_ex (R : Int)
  obtain ⟨z0, z1, z2, z3, iz⟩ := isW_ex (0 - (R : Int))
  have MO : ∀ w : World, Calls Tryz.prog 19 #[.agg #[.int .u64 u0, .int .u64 u1, .int .u64 u2, .int .u64 u3], .agg #[.int .u64 v0, .int .u64 v1, .int .u64 v2, .int .u64 v3]] w fun e w' => e = .returned (.agg #[.int .u64 q0, .int .u64 q1, .int .u64 q2, .int .u64 q3]) ∧ Below w.heap.size w w' := fun w => mod_is (U : Int) (T : Int) u0 u1 u2 u3 v0 v1 v2 v3 q0 q1 q2 q3 w iU iT (by rw [nat_small lU, nat_small lT, hR]; exact iq)
  have N1 := negate_c q0 q1 q2 q3 z0 z1 z2 z3 (fun w => sub_is 0 _ 0 0 0 0 q0 q1 q2 q3 z0 z1 z2 z3 w isW_0 iq iz)
  by_cases hz : T = 0
  · subst hz
    obtain rfl : R = 0 := by simp [md] at hR; omega
    obtain ⟨rfl, rfl, rfl, rfl⟩ := iq.eq isW_0 rfl
    obtain ⟨rfl, rfl, rfl, rfl⟩ := iz.eq isW_0 rfl
    refine ⟨0, 0, 0, 0, ?_, rsmod_z a0 a1 a2 a3 b0 b1 b2 b3 U 0 SA SB (by decide)⟩
    cases s
    · exact smod_0 a0 a1 a2 a3 b0 b1 b2 b3 u0 u1 u2 u3 v0 v1 v2 v3 0 0 0 0 MA MB MO NA
    · exact smod_1 a0 a1 a2 a3 b0 b1 b2 b3 u0 u1 u2 u3 v0 v1 v2 v3 0 0 0 0 0 0 0 0 MA MB MO NA N1
  · have h1 : decide (T = 0) = false := by simpa using hz
    have h2 : 0 < T := by omega
    obtain rfl : R = U % T := by rw [md, if_neg (by omega), ← Int.natCast_emod] at hR; omega
    cases s
    · exact ⟨q0, q1, q2, q3, smod_0 a0 a1 a2 a3 b0 b1 b2 b3 u0 u1 u2 u3 v0 v1 v2 v3 q0 q1 q2 q3 MA MB MO NA, rsmod_0 a0 a1 a2 a3 b0 b1 b2 b3 q0 q1 q2 q3 U T SA SB h1 h2 RA iq⟩
    · exact ⟨z0, z1, z2, z3, smod_1 a0 a1 a2 a3 b0 b1 b2 b3 u0 u1 u2 u3 v0 v1 v2 v3 q0 q1 q2 q3 z0 z1 z2 z3 MA MB MO NA N1, rsmod_1 a0 a1 a2 a3 b0 b1 b2 b3 z0 z1 z2 z3 U T SA SB h1 h2 RA (neg_word iz)⟩
theorem slt_both {x y : Int} {a0 a1 a2 a3 b0 b1 b2 b3 : Int} (ha : IsW x a0 a1 a2 a3) (hb : IsW y b0 b1 b2 b3) : ∃ r : Bool, decide ((x + MM / 2) % MM < (y + MM / 2) % MM) = r ∧ (∀ w : World, Calls Tryz.prog 27 #[.agg #[.int .u64 a0, .int .u64 a1, .int .u64 a2, .int .u64 a3], .agg #[.int .u64 b0, .int .u64 b1, .int .u64 b2, .int .u64 b3]] w fun e w' => e = .returned (.bool r) ∧ Below w.heap.size w w') := by
  obtain ⟨X, U, s, u0, u1, u2, u3, hX, eX, iU, lU, sT, sF, ds, NA, MA, RA, SA⟩ := sgn ha
  obtain ⟨Y, T, t, v0, v1, v2, v3, hY, eY, iT, lT, tT, tF, dt, NB, MB, RB, SB⟩ := sgn hb
  refine ⟨_, rfl, ?_⟩
  have key : ∀ {z : Int} {Z : Nat}, (Z : Int) = z % MM → (z + MM / 2) % MM = ((Z : Int) + MM / 2) % MM := fun {z Z} e => by rw [e, Int.emod_add_emod]
  have CM : ∀ W : World, Calls Tryz.prog 98 #[.agg #[.int .u64 a0, .int .u64 a1, .int .u64 a2, .int .u64 a3], .agg #[.int .u64 b0, .int .u64 b1, .int .u64 b2, .int .u64 b3]] W fun e w' => e = .returned (.int .i64 (cmpv (x % MM) (y % MM))) ∧ Below W.heap.size W w' := fun W => rcmp_any x y a0 a1 a2 a3 b0 b1 b2 b3 W ha hb
  have rX : (0 : Int) ≤ x % MM ∧ x % MM < MM := ⟨Int.emod_nonneg _ (by have := MM_pos; omega), Int.emod_lt_of_pos _ MM_pos⟩
  have rY : (0 : Int) ≤ y % MM ∧ y % MM < MM := ⟨Int.emod_nonneg _ (by have := MM_pos; omega), Int.emod_lt_of_pos _ MM_pos⟩
  rw [key eX, key eY, eX, eY]
  generalize x % MM = p at *
  generalize y % MM = q at *
  rw [MM_half] at ds dt ⊢
  rw [MM_val] at rX rY ⊢
  have cm : (cmpv p q < 0) ↔ p < q := by have := cmpv_lt p q; simpa using this
  cases s <;> cases t <;> simp only [decide_eq_true_eq, decide_eq_false_iff_not] at ds dt
  · by_cases h : p < q
    · rw [show decide _ = true by rw [decide_eq_true_eq]; omega]
      exact rslt_00t a0 a1 a2 a3 b0 b1 b2 b3 _ RA RB CM (cm.2 h)
    · rw [show decide _ = false by rw [decide_eq_false_iff_not]; omega]
      exact rslt_00f a0 a1 a2 a3 b0 b1 b2 b3 _ RA RB CM (fun hh => h (cm.1 hh))
  · rw [show decide _ = false by rw [decide_eq_false_iff_not]; omega]
    exact rslt_01 a0 a1 a2 a3 b0 b1 b2 b3 RA RB
  · rw [show decide _ = true by rw [decide_eq_true_eq]; omega]
    exact rslt_10 a0 a1 a2 a3 b0 b1 b2 b3 RA RB
  · by_cases h : p < q
    · rw [show decide _ = true by rw [decide_eq_true_eq]; omega]
      exact rslt_11t a0 a1 a2 a3 b0 b1 b2 b3 _ RA RB CM (cm.2 h)
    · rw [show decide _ = false by rw [decide_eq_false_iff_not]; omega]
      exact rslt_11f a0 a1 a2 a3 b0 b1 b2 b3 _ RA RB CM (fun hh => h (cm.1 hh))
theorem pair_slt {x y : Int} {a0 a1 a2 a3 b0 b1 b2 b3 : Int} (ha : IsW x a0 a1 a2 a3) (hb : IsW y b0 b1 b2 b3) : PairB 26 27 #[.agg #[.int .u64 a0, .int .u64 a1, .int .u64 a2, .int .u64 a3], .agg #[.int .u64 b0, .int .u64 b1, .int .u64 b2, .int .u64 b3]] := by
  obtain ⟨r, hr, h⟩ := slt_both ha hb
  exact ⟨r, fun w => slt_is a0 a1 a2 a3 b0 b1 b2 b3 w ha hb r hr, h⟩
theorem pair_sgt {x y : Int} {a0 a1 a2 a3 b0 b1 b2 b3 : Int} (ha : IsW x a0 a1 a2 a3) (hb : IsW y b0 b1 b2 b3) : PairB 28 29 #[.agg #[.int .u64 a0, .int .u64 a1, .int .u64 a2, .int .u64 a3], .agg #[.int .u64 b0, .int .u64 b1, .int .u64 b2, .int .u64 b3]] := by
  obtain ⟨r, hr, h⟩ := slt_both hb ha
  refine ⟨r, fun w => sgt_is a0 a1 a2 a3 b0 b1 b2 b3 w ha hb r hr, ?_⟩
  cases r
  · exact rsgt_f a0 a1 a2 a3 b0 b1 b2 b3 h
  · exact rsgt_t a0 a1 a2 a3 b0 b1 b2 b3 h
end Go.Proofs.YtpadpmkfhljiiaaGreat
/- Word by word: the program's Sar and SignExtend and the document's give the same. -/
namespace Go.Proofs.YtpadpmkfhljiiaaGreat
open Go.RowKit
theorem bsum_const (t : Nat) : ∀ n, bsum (fun _ => t) n + t = t * 2 ^ n
  | 0 => by simp [bsum]
  | n + 1 => by
    have := bsum_const t n
    rw [bsum, Nat.pow_succ, ← Nat.mul_assoc]; omega
/-- the lower m bits of Z, and t above them -/
theorem bsum_low (Z t m : Nat) (hm : m ≤ 256) (f : Nat → Nat) (h0 : ∀ i, i < m → f i = bitf Z i) (h1 : ∀ i, m ≤ i → i < 256 → f i = t) : bsum f 256 + t * 2 ^ m = Z % 2 ^ m + t * 256 ^ 32 := by
  have e : (256 : Nat) = m + (256 - m) := by omega
  have h2 : bsum f 256 = bsum f (m + (256 - m)) := by rw [← e]
  have h3 := bsum_const t (256 - m)
  rw [h2, bsum_split, bsum_ext m h0, bsum_bitf, bsum_ext (g := fun _ => t) (256 - m) (fun i hi => h1 _ (by omega) (by omega)), ← p256, show (2 : Nat) ^ 256 = 2 ^ m * 2 ^ (256 - m) by rw [← Nat.pow_add]; congr 1]
  have h4 : 2 ^ m * (bsum (fun _ => t) (256 - m) + t) = 2 ^ m * (t * 2 ^ (256 - m)) := by rw [h3]
  rw [Nat.mul_add] at h4
  have h5 : 2 ^ m * (t * 2 ^ (256 - m)) = t * (2 ^ m * 2 ^ (256 - m)) := Nat.mul_left_comm _ _ _
  have h6 : 2 ^ m * t = t * 2 ^ m := Nat.mul_comm _ _
  omega
/-- (Z - t MM) / 2^K, laid out in bits -/
theorem sar_num {Y K : Nat} (_hY : Y < 256 ^ 32) (hK : K ≤ 256) (t : Nat) : ((Y : Int) - (t : Int) * MM) / 2 ^ K = ((Y / 2 ^ K : Nat) : Int) - (t : Int) * ((2 ^ (256 - K) : Nat) : Int) := by
  have e : MM = ((2 ^ (256 - K) : Nat) : Int) * (2 : Int) ^ K := by
    rw [← natpow, ← Int.natCast_mul, ← Nat.pow_add, show 256 - K + K = 256 by omega, p256, MM_nat]
  rw [e, ← Int.mul_assoc, Int.sub_eq_add_neg, ← Int.neg_mul, Int.add_mul_ediv_right _ _ (by have := two_pos K; omega), Int.natCast_ediv, natpow K, ← Int.sub_eq_add_neg]
theorem bsum_cong {A B t : Nat} {S : Nat} (h : S + t * B = A + t * 256 ^ 32) : (S : Int) % MM = ((A : Int) - (t : Int) * (B : Int)) % MM := by
  have h2 : (S : Int) = ((A : Int) - (t : Int) * (B : Int)) + (t : Int) * MM := by
    rw [← MM_nat, ← Int.natCast_mul, ← Int.natCast_mul]
    have h3 : ((S + t * B : Nat) : Int) = ((A + t * 256 ^ 32 : Nat) : Int) := by rw [h]
    rw [Int.natCast_add, Int.natCast_add] at h3
    omega
  rw [h2, Int.add_mul_emod_self_right]
theorem pair_sar {x y : Int} {a0 a1 a2 a3 b0 b1 b2 b3 : Int} (ha : IsW x a0 a1 a2 a3) (hb : IsW y b0 b1 b2 b3) : Pair 30 31 #[.agg #[.int .u64 a0, .int .u64 a1, .int .u64 a2, .int .u64 a3], .agg #[.int .u64 b0, .int .u64 b1, .int .u64 b2, .int .u64 b3]] := by
  obtain ⟨A, hA, eA, lA⟩ := mod_nat ha
  obtain ⟨Y, T, s, v0, v1, v2, v3, hY, eY, iT, lT, sT, sF, ds, _, _, _, _⟩ := sgn hb
  have lY : Y < 256 ^ 32 := V_lt hb hY
  have h256 : (256 : Int) % MM = 256 := by unfold MM; omega
  obtain ⟨t, ht, et⟩ : ∃ t : Nat, bitf Y 255 = t ∧ (if s then MM else 0) = (t : Int) * MM := by
    cases s
    · exact ⟨0, (sF rfl).2, by simp⟩
    · exact ⟨1, (sT rfl).2.2, by simp⟩
  have t1 : t ≤ 1 := by rw [← ht]; exact bitf_le _ _
  have SB : ∀ w : World, Calls Tryz.prog 102 #[.agg #[.int .u64 b0, .int .u64 b1, .int .u64 b2, .int .u64 b3]] w fun e w' => e = .returned (.int .u64 (if s then 18446744073709551615 else 0)) ∧ Below w.heap.size w w' := fun w => by
    have h := signBits_any y b0 b1 b2 b3 w hb
    have e : (if MM / 2 ≤ y % MM then (18446744073709551615 : Int) else 0) = if s then 18446744073709551615 else 0 := by rw [← ds]; simp
    rw [e] at h; exact h
  have BY := fun W => bits_is y b0 b1 b2 b3 W hb Y hY
  -- what the document gives, of a shift by K places
  have REF : ∀ (K : Nat), K ≤ 256 → (∀ W : World, Calls Tryz.prog 106 #[.agg #[.int .u64 a0, .int .u64 a1, .int .u64 a2, .int .u64 a3], .int .i64 256] W fun e w' => e = .returned (.int .i64 (K : Int)) ∧ Below W.heap.size W w') → ∀ z0 z1 z2 z3 : Int, IsW (((Y : Int) - (t : Int) * MM) / 2 ^ K) z0 z1 z2 z3 → ∀ w : World, Calls Tryz.prog 31 #[.agg #[.int .u64 a0, .int .u64 a1, .int .u64 a2, .int .u64 a3], .agg #[.int .u64 b0, .int .u64 b1, .int .u64 b2, .int .u64 b3]] w fun e w' => e = .returned (.agg #[.int .u64 z0, .int .u64 z1, .int .u64 z2, .int .u64 z3]) ∧ Below w.heap.size w w' := by
    intro K hK UP z0 z1 z2 z3 iz w
    refine rsar_r a0 a1 a2 a3 b0 b1 b2 b3 z0 z1 z2 z3 Y t BY (fun w => ?_) ht w
    refine rlow_r a0 a1 a2 a3 b0 b1 b2 b3 z0 z1 z2 z3 K Y t (fun i => if i + K < 256 then bitf Y (i + K) else t) UP BY hK (fun _ => rfl) (fun W => joined_is _ (fun i => by split; exact bitf_le _ _; exact t1) W _ _ _ _ (iz.cong ?_)) w
    have hb := bsum_low (Y / 2 ^ K) t (256 - K) (by omega) (fun i => if i + K < 256 then bitf Y (i + K) else t) (fun i hi => by rw [if_pos (by omega), ← bitf_high, Nat.add_comm]) (fun i h1 h2 => by rw [if_neg (by omega)])
    have hl : Y / 2 ^ K < 2 ^ (256 - K) := by
      rw [Nat.div_lt_iff_lt_mul (Nat.pow_pos (by decide)), ← Nat.pow_add, show 256 - K + K = 256 by omega, p256]; exact lY
    rw [Nat.mod_eq_of_lt hl] at hb
    rw [bsum_cong hb, sar_num lY hK]
  by_cases h : A < 256
  · have hA2 : IsW (A : Int) a0 a1 a2 a3 := ha.cong (mod_lit eA)
    obtain ⟨rfl, rfl, rfl, rfl⟩ := small_limbs _ _ _ _ hA2 (by omega) (by omega)
    obtain ⟨z0, z1, z2, z3, SD, iz⟩ := shiftDown_ex y (A : Int) s b0 b1 b2 b3 hb (by omega) (by omega)
    rw [show ((A : Int)).toNat = A by omega, et, ← eY] at iz
    exact ⟨z0, z1, z2, z3, fun w => sar_lt (A : Int) _ b0 b1 b2 b3 z0 z1 z2 z3 w (by omega) (by omega) SB SD, REF A (by omega) (fun W => upTo_is _ _ _ _ _ W hA2 A (by unfold V Bd; omega) 256 (by omega) A (by omega)) z0 z1 z2 z3 iz⟩
  · obtain ⟨z0, z1, z2, z3, SD, iz⟩ := shiftDown_ex y 255 s b0 b1 b2 b3 hb (by omega) (by omega)
    rw [show ((255 : Int)).toNat = 255 by rfl, et, ← eY, sar_num lY (by omega)] at iz
    have BL : ∀ w : World, Calls Tryz.prog 100 #[.agg #[.int .u64 a0, .int .u64 a1, .int .u64 a2, .int .u64 a3], .int .u64 256] w fun e w' => e = .returned (.tuple #[.int .u64 0, .bool false]) ∧ Below w.heap.size w w' := fun w => below_ge x 256 a0 a1 a2 a3 w ha (isW_lit 256 (by omega) (by omega)) (by rw [← eA, h256]; omega)
    refine ⟨z0, z1, z2, z3, sar_ge a0 a1 a2 a3 b0 b1 b2 b3 z0 z1 z2 z3 _ BL SB SD, REF 256 (by omega) (fun W => upTo_is x a0 a1 a2 a3 W ha A hA 256 (by omega) 256 (by omega)) z0 z1 z2 z3 (iz.cong ?_)⟩
    congr 1
    rw [sar_num lY (by omega), p256, Nat.div_eq_of_lt lY]
    have e : Y / 2 ^ 255 = t := by
      rw [← ht]; unfold bitf
      have : Y / 2 ^ 255 < 2 := by rw [Nat.div_lt_iff_lt_mul (by decide)]; rw [p256n] at lY; rw [p255]; omega
      omega
    rw [e, show 256 - 255 = 1 by rfl, show 256 - 256 = 0 by rfl]
    simp; omega
theorem pair_signExtend {x y : Int} {a0 a1 a2 a3 b0 b1 b2 b3 : Int} (ha : IsW x a0 a1 a2 a3) (hb : IsW y b0 b1 b2 b3) : Pair 32 33 #[.agg #[.int .u64 a0, .int .u64 a1, .int .u64 a2, .int .u64 a3], .agg #[.int .u64 b0, .int .u64 b1, .int .u64 b2, .int .u64 b3]] := by
  obtain ⟨A, hA, eA, lA⟩ := mod_nat ha
  obtain ⟨Y, hY, eY, lY⟩ := mod_nat hb
  by_cases h : A < 31
  · have hA2 : IsW (A : Int) a0 a1 a2 a3 := ha.cong (mod_lit eA)
    obtain ⟨c, ec⟩ : ∃ c, c = 8 * A + 8 := ⟨_, rfl⟩
    obtain ⟨m, em⟩ : ∃ m, m + c = 256 := ⟨256 - c, by omega⟩
    obtain ⟨z0, z1, z2, z3, SU, iz⟩ := shiftUp_ex y (m : Int) b0 b1 b2 b3 hb (by omega) (by omega)
    rw [show ((m : Int)).toNat = m by omega] at iz
    obtain ⟨Z, U, s, u0, u1, u2, u3, hZ, eZ, _, _, sT, sF, ds, _, _, _, _⟩ := sgn iz
    have lZ : Z < 256 ^ 32 := V_lt iz hZ
    have pe : (256 : Nat) ^ 32 = 2 ^ m * 2 ^ c := by rw [← Nat.pow_add, em, p256]
    have vZ : Z = 2 ^ m * (Y % 2 ^ c) := by
      have h1 : (Z : Int) = ((2 ^ m * Y % 256 ^ 32 : Nat) : Int) := by
        rw [eZ, Int.natCast_emod, MM_nat, Int.natCast_mul, natpow, eY, Int.mul_comm y, Int.mul_emod, Int.mul_emod (2 ^ m) (y % MM), Int.emod_emod_of_dvd _ (Int.dvd_refl _)]
      rw [pe, Nat.mul_mod_mul_left] at h1
      omega
    obtain ⟨t, ht, et⟩ : ∃ t : Nat, bitf Z 255 = t ∧ (if s then MM else 0) = (t : Int) * MM := by
      cases s
      · exact ⟨0, (sF rfl).2, by simp⟩
      · exact ⟨1, (sT rfl).2.2, by simp⟩
    have t1 : t ≤ 1 := by rw [← ht]; exact bitf_le _ _
    have tY : bitf Y (8 * A + 7) = t := by
      rw [← ht, show 255 = m + (8 * A + 7) by omega, bitf_high Z m, vZ, Nat.mul_div_cancel_left _ (Nat.pow_pos (by decide)), bitf_low Y c _ (by omega)]
    have SB : ∀ w : World, Calls Tryz.prog 102 #[.agg #[.int .u64 z0, .int .u64 z1, .int .u64 z2, .int .u64 z3]] w fun e w' => e = .returned (.int .u64 (if s then 18446744073709551615 else 0)) ∧ Below w.heap.size w w' := fun w => by
      have h := signBits_any _ z0 z1 z2 z3 w iz
      have e : (if MM / 2 ≤ (y * 2 ^ m) % MM then (18446744073709551615 : Int) else 0) = if s then 18446744073709551615 else 0 := by rw [← ds]; simp
      rw [e] at h; exact h
    obtain ⟨q0, q1, q2, q3, SD, iq⟩ := shiftDown_ex (y * 2 ^ m) (m : Int) s z0 z1 z2 z3 iz (by omega) (by omega)
    rw [show ((m : Int)).toNat = m by omega, et, ← eZ, sar_num lZ (by omega), vZ, Nat.mul_div_cancel_left _ (Nat.pow_pos (by decide)), show 256 - m = c by omega] at iq
    refine ⟨q0, q1, q2, q3, signExtend_is (A : Int) (m : Int) _ a0 a1 a2 a3 b0 b1 b2 b3 z0 z1 z2 z3 q0 q1 q2 q3 hA2 (by omega) (by omega) (by omega) SU SB SD, fun w => ?_⟩
    refine rsext_r a0 a1 a2 a3 b0 b1 b2 b3 q0 q1 q2 q3 A Y _ (fun W => upTo_is x a0 a1 a2 a3 W ha A hA 31 (by omega) A (by omega)) (fun W => bits_is y b0 b1 b2 b3 W hb Y hY) h (fun _ => rfl) (fun W => joined_is _ (fun i => by split; exact bitf_le _ _; exact bitf_le _ _) W _ _ _ _ (iq.cong ?_)) w
    have hb := bsum_low Y t c (by omega) (fun i => if i < 8 * A + 8 then bitf Y i else bitf Y (8 * A + 7)) (fun i hi => by rw [if_pos (by omega)]) (fun i h1 h2 => by rw [if_neg (by omega), tY])
    rw [bsum_cong hb]
  · refine ⟨b0, b1, b2, b3, fun w => signExtend_ge x a0 a1 a2 a3 b0 b1 b2 b3 w ha (by rw [← eA]; omega), rsext_31 a0 a1 a2 a3 b0 b1 b2 b3 (fun W => upTo_is x a0 a1 a2 a3 W ha A hA 31 (by omega) 31 (by omega))⟩
end Go.Proofs.YtpadpmkfhljiiaaGreat
/- The operation at a place of a long region. -/
namespace Go.Proofs.YtpadpmkfhljiiaaGreat
open Go.RowKit
theorem op30 {q0 q1 q2 q3 q4 q5 q6 q7 q8 q9 q10 q11 q12 q13 q14 q15 q16 q17 q18 q19 q20 q21 q22 q23 q24 q25 q26 q27 q28 q29 x : Oper} {r : List Oper} : (q0 :: q1 :: q2 :: q3 :: q4 :: q5 :: q6 :: q7 :: q8 :: q9 :: q10 :: q11 :: q12 :: q13 :: q14 :: q15 :: q16 :: q17 :: q18 :: q19 :: q20 :: q21 :: q22 :: q23 :: q24 :: q25 :: q26 :: q27 :: q28 :: q29 :: x :: r).toArray[30]? = some x := rfl
theorem op31 {q0 q1 q2 q3 q4 q5 q6 q7 q8 q9 q10 q11 q12 q13 q14 q15 q16 q17 q18 q19 q20 q21 q22 q23 q24 q25 q26 q27 q28 q29 q30 x : Oper} {r : List Oper} : (q0 :: q1 :: q2 :: q3 :: q4 :: q5 :: q6 :: q7 :: q8 :: q9 :: q10 :: q11 :: q12 :: q13 :: q14 :: q15 :: q16 :: q17 :: q18 :: q19 :: q20 :: q21 :: q22 :: q23 :: q24 :: q25 :: q26 :: q27 :: q28 :: q29 :: q30 :: x :: r).toArray[31]? = some x := rfl
theorem op32 {q0 q1 q2 q3 q4 q5 q6 q7 q8 q9 q10 q11 q12 q13 q14 q15 q16 q17 q18 q19 q20 q21 q22 q23 q24 q25 q26 q27 q28 q29 q30 q31 x : Oper} {r : List Oper} : (q0 :: q1 :: q2 :: q3 :: q4 :: q5 :: q6 :: q7 :: q8 :: q9 :: q10 :: q11 :: q12 :: q13 :: q14 :: q15 :: q16 :: q17 :: q18 :: q19 :: q20 :: q21 :: q22 :: q23 :: q24 :: q25 :: q26 :: q27 :: q28 :: q29 :: q30 :: q31 :: x :: r).toArray[32]? = some x := rfl
theorem op33 {q0 q1 q2 q3 q4 q5 q6 q7 q8 q9 q10 q11 q12 q13 q14 q15 q16 q17 q18 q19 q20 q21 q22 q23 q24 q25 q26 q27 q28 q29 q30 q31 q32 x : Oper} {r : List Oper} : (q0 :: q1 :: q2 :: q3 :: q4 :: q5 :: q6 :: q7 :: q8 :: q9 :: q10 :: q11 :: q12 :: q13 :: q14 :: q15 :: q16 :: q17 :: q18 :: q19 :: q20 :: q21 :: q22 :: q23 :: q24 :: q25 :: q26 :: q27 :: q28 :: q29 :: q30 :: q31 :: q32 :: x :: r).toArray[33]? = some x := rfl
theorem op34 {q0 q1 q2 q3 q4 q5 q6 q7 q8 q9 q10 q11 q12 q13 q14 q15 q16 q17 q18 q19 q20 q21 q22 q23 q24 q25 q26 q27 q28 q29 q30 q31 q32 q33 x : Oper} {r : List Oper} : (q0 :: q1 :: q2 :: q3 :: q4 :: q5 :: q6 :: q7 :: q8 :: q9 :: q10 :: q11 :: q12 :: q13 :: q14 :: q15 :: q16 :: q17 :: q18 :: q19 :: q20 :: q21 :: q22 :: q23 :: q24 :: q25 :: q26 :: q27 :: q28 :: q29 :: q30 :: q31 :: q32 :: q33 :: x :: r).toArray[34]? = some x := rfl
theorem op35 {q0 q1 q2 q3 q4 q5 q6 q7 q8 q9 q10 q11 q12 q13 q14 q15 q16 q17 q18 q19 q20 q21 q22 q23 q24 q25 q26 q27 q28 q29 q30 q31 q32 q33 q34 x : Oper} {r : List Oper} : (q0 :: q1 :: q2 :: q3 :: q4 :: q5 :: q6 :: q7 :: q8 :: q9 :: q10 :: q11 :: q12 :: q13 :: q14 :: q15 :: q16 :: q17 :: q18 :: q19 :: q20 :: q21 :: q22 :: q23 :: q24 :: q25 :: q26 :: q27 :: q28 :: q29 :: q30 :: q31 :: q32 :: q33 :: q34 :: x :: r).toArray[35]? = some x := rfl
theorem op36 {q0 q1 q2 q3 q4 q5 q6 q7 q8 q9 q10 q11 q12 q13 q14 q15 q16 q17 q18 q19 q20 q21 q22 q23 q24 q25 q26 q27 q28 q29 q30 q31 q32 q33 q34 q35 x : Oper} {r : List Oper} : (q0 :: q1 :: q2 :: q3 :: q4 :: q5 :: q6 :: q7 :: q8 :: q9 :: q10 :: q11 :: q12 :: q13 :: q14 :: q15 :: q16 :: q17 :: q18 :: q19 :: q20 :: q21 :: q22 :: q23 :: q24 :: q25 :: q26 :: q27 :: q28 :: q29 :: q30 :: q31 :: q32 :: q33 :: q34 :: q35 :: x :: r).toArray[36]? = some x := rfl
theorem op37 {q0 q1 q2 q3 q4 q5 q6 q7 q8 q9 q10 q11 q12 q13 q14 q15 q16 q17 q18 q19 q20 q21 q22 q23 q24 q25 q26 q27 q28 q29 q30 q31 q32 q33 q34 q35 q36 x : Oper} {r : List Oper} : (q0 :: q1 :: q2 :: q3 :: q4 :: q5 :: q6 :: q7 :: q8 :: q9 :: q10 :: q11 :: q12 :: q13 :: q14 :: q15 :: q16 :: q17 :: q18 :: q19 :: q20 :: q21 :: q22 :: q23 :: q24 :: q25 :: q26 :: q27 :: q28 :: q29 :: q30 :: q31 :: q32 :: q33 :: q34 :: q35 :: q36 :: x :: r).toArray[37]? = some x := rfl
theorem op38 {q0 q1 q2 q3 q4 q5 q6 q7 q8 q9 q10 q11 q12 q13 q14 q15 q16 q17 q18 q19 q20 q21 q22 q23 q24 q25 q26 q27 q28 q29 q30 q31 q32 q33 q34 q35 q36 q37 x : Oper} {r : List Oper} : (q0 :: q1 :: q2 :: q3 :: q4 :: q5 :: q6 :: q7 :: q8 :: q9 :: q10 :: q11 :: q12 :: q13 :: q14 :: q15 :: q16 :: q17 :: q18 :: q19 :: q20 :: q21 :: q22 :: q23 :: q24 :: q25 :: q26 :: q27 :: q28 :: q29 :: q30 :: q31 :: q32 :: q33 :: q34 :: q35 :: q36 :: q37 :: x :: r).toArray[38]? = some x := rfl
theorem op39 {q0 q1 q2 q3 q4 q5 q6 q7 q8 q9 q10 q11 q12 q13 q14 q15 q16 q17 q18 q19 q20 q21 q22 q23 q24 q25 q26 q27 q28 q29 q30 q31 q32 q33 q34 q35 q36 q37 q38 x : Oper} {r : List Oper} : (q0 :: q1 :: q2 :: q3 :: q4 :: q5 :: q6 :: q7 :: q8 :: q9 :: q10 :: q11 :: q12 :: q13 :: q14 :: q15 :: q16 :: q17 :: q18 :: q19 :: q20 :: q21 :: q22 :: q23 :: q24 :: q25 :: q26 :: q27 :: q28 :: q29 :: q30 :: q31 :: q32 :: q33 :: q34 :: q35 :: q36 :: q37 :: q38 :: x :: r).toArray[39]? = some x := rfl
theorem op40 {q0 q1 q2 q3 q4 q5 q6 q7 q8 q9 q10 q11 q12 q13 q14 q15 q16 q17 q18 q19 q20 q21 q22 q23 q24 q25 q26 q27 q28 q29 q30 q31 q32 q33 q34 q35 q36 q37 q38 q39 x : Oper} {r : List Oper} : (q0 :: q1 :: q2 :: q3 :: q4 :: q5 :: q6 :: q7 :: q8 :: q9 :: q10 :: q11 :: q12 :: q13 :: q14 :: q15 :: q16 :: q17 :: q18 :: q19 :: q20 :: q21 :: q22 :: q23 :: q24 :: q25 :: q26 :: q27 :: q28 :: q29 :: q30 :: q31 :: q32 :: q33 :: q34 :: q35 :: q36 :: q37 :: q38 :: q39 :: x :: r).toArray[40]? = some x := rfl
theorem op41 {q0 q1 q2 q3 q4 q5 q6 q7 q8 q9 q10 q11 q12 q13 q14 q15 q16 q17 q18 q19 q20 q21 q22 q23 q24 q25 q26 q27 q28 q29 q30 q31 q32 q33 q34 q35 q36 q37 q38 q39 q40 x : Oper} {r : List Oper} : (q0 :: q1 :: q2 :: q3 :: q4 :: q5 :: q6 :: q7 :: q8 :: q9 :: q10 :: q11 :: q12 :: q13 :: q14 :: q15 :: q16 :: q17 :: q18 :: q19 :: q20 :: q21 :: q22 :: q23 :: q24 :: q25 :: q26 :: q27 :: q28 :: q29 :: q30 :: q31 :: q32 :: q33 :: q34 :: q35 :: q36 :: q37 :: q38 :: q39 :: q40 :: x :: r).toArray[41]? = some x := rfl
theorem op42 {q0 q1 q2 q3 q4 q5 q6 q7 q8 q9 q10 q11 q12 q13 q14 q15 q16 q17 q18 q19 q20 q21 q22 q23 q24 q25 q26 q27 q28 q29 q30 q31 q32 q33 q34 q35 q36 q37 q38 q39 q40 q41 x : Oper} {r : List Oper} : (q0 :: q1 :: q2 :: q3 :: q4 :: q5 :: q6 :: q7 :: q8 :: q9 :: q10 :: q11 :: q12 :: q13 :: q14 :: q15 :: q16 :: q17 :: q18 :: q19 :: q20 :: q21 :: q22 :: q23 :: q24 :: q25 :: q26 :: q27 :: q28 :: q29 :: q30 :: q31 :: q32 :: q33 :: q34 :: q35 :: q36 :: q37 :: q38 :: q39 :: q40 :: q41 :: x :: r).toArray[42]? = some x := rfl
theorem op43 {q0 q1 q2 q3 q4 q5 q6 q7 q8 q9 q10 q11 q12 q13 q14 q15 q16 q17 q18 q19 q20 q21 q22 q23 q24 q25 q26 q27 q28 q29 q30 q31 q32 q33 q34 q35 q36 q37 q38 q39 q40 q41 q42 x : Oper} {r : List Oper} : (q0 :: q1 :: q2 :: q3 :: q4 :: q5 :: q6 :: q7 :: q8 :: q9 :: q10 :: q11 :: q12 :: q13 :: q14 :: q15 :: q16 :: q17 :: q18 :: q19 :: q20 :: q21 :: q22 :: q23 :: q24 :: q25 :: q26 :: q27 :: q28 :: q29 :: q30 :: q31 :: q32 :: q33 :: q34 :: q35 :: q36 :: q37 :: q38 :: q39 :: q40 :: q41 :: q42 :: x :: r).toArray[43]? = some x := rfl
theorem op44 {q0 q1 q2 q3 q4 q5 q6 q7 q8 q9 q10 q11 q12 q13 q14 q15 q16 q17 q18 q19 q20 q21 q22 q23 q24 q25 q26 q27 q28 q29 q30 q31 q32 q33 q34 q35 q36 q37 q38 q39 q40 q41 q42 q43 x : Oper} {r : List Oper} : (q0 :: q1 :: q2 :: q3 :: q4 :: q5 :: q6 :: q7 :: q8 :: q9 :: q10 :: q11 :: q12 :: q13 :: q14 :: q15 :: q16 :: q17 :: q18 :: q19 :: q20 :: q21 :: q22 :: q23 :: q24 :: q25 :: q26 :: q27 :: q28 :: q29 :: q30 :: q31 :: q32 :: q33 :: q34 :: q35 :: q36 :: q37 :: q38 :: q39 :: q40 :: q41 :: q42 :: q43 :: x :: r).toArray[44]? = some x := rfl
theorem op45 {q0 q1 q2 q3 q4 q5 q6 q7 q8 q9 q10 q11 q12 q13 q14 q15 q16 q17 q18 q19 q20 q21 q22 q23 q24 q25 q26 q27 q28 q29 q30 q31 q32 q33 q34 q35 q36 q37 q38 q39 q40 q41 q42 q43 q44 x : Oper} {r : List Oper} : (q0 :: q1 :: q2 :: q3 :: q4 :: q5 :: q6 :: q7 :: q8 :: q9 :: q10 :: q11 :: q12 :: q13 :: q14 :: q15 :: q16 :: q17 :: q18 :: q19 :: q20 :: q21 :: q22 :: q23 :: q24 :: q25 :: q26 :: q27 :: q28 :: q29 :: q30 :: q31 :: q32 :: q33 :: q34 :: q35 :: q36 :: q37 :: q38 :: q39 :: q40 :: q41 :: q42 :: q43 :: q44 :: x :: r).toArray[45]? = some x := rfl
theorem op46 {q0 q1 q2 q3 q4 q5 q6 q7 q8 q9 q10 q11 q12 q13 q14 q15 q16 q17 q18 q19 q20 q21 q22 q23 q24 q25 q26 q27 q28 q29 q30 q31 q32 q33 q34 q35 q36 q37 q38 q39 q40 q41 q42 q43 q44 q45 x : Oper} {r : List Oper} : (q0 :: q1 :: q2 :: q3 :: q4 :: q5 :: q6 :: q7 :: q8 :: q9 :: q10 :: q11 :: q12 :: q13 :: q14 :: q15 :: q16 :: q17 :: q18 :: q19 :: q20 :: q21 :: q22 :: q23 :: q24 :: q25 :: q26 :: q27 :: q28 :: q29 :: q30 :: q31 :: q32 :: q33 :: q34 :: q35 :: q36 :: q37 :: q38 :: q39 :: q40 :: q41 :: q42 :: q43 :: q44 :: q45 :: x :: r).toArray[46]? = some x := rfl
theorem op47 {q0 q1 q2 q3 q4 q5 q6 q7 q8 q9 q10 q11 q12 q13 q14 q15 q16 q17 q18 q19 q20 q21 q22 q23 q24 q25 q26 q27 q28 q29 q30 q31 q32 q33 q34 q35 q36 q37 q38 q39 q40 q41 q42 q43 q44 q45 q46 x : Oper} {r : List Oper} : (q0 :: q1 :: q2 :: q3 :: q4 :: q5 :: q6 :: q7 :: q8 :: q9 :: q10 :: q11 :: q12 :: q13 :: q14 :: q15 :: q16 :: q17 :: q18 :: q19 :: q20 :: q21 :: q22 :: q23 :: q24 :: q25 :: q26 :: q27 :: q28 :: q29 :: q30 :: q31 :: q32 :: q33 :: q34 :: q35 :: q36 :: q37 :: q38 :: q39 :: q40 :: q41 :: q42 :: q43 :: q44 :: q45 :: q46 :: x :: r).toArray[47]? = some x := rfl
theorem op48 {q0 q1 q2 q3 q4 q5 q6 q7 q8 q9 q10 q11 q12 q13 q14 q15 q16 q17 q18 q19 q20 q21 q22 q23 q24 q25 q26 q27 q28 q29 q30 q31 q32 q33 q34 q35 q36 q37 q38 q39 q40 q41 q42 q43 q44 q45 q46 q47 x : Oper} {r : List Oper} : (q0 :: q1 :: q2 :: q3 :: q4 :: q5 :: q6 :: q7 :: q8 :: q9 :: q10 :: q11 :: q12 :: q13 :: q14 :: q15 :: q16 :: q17 :: q18 :: q19 :: q20 :: q21 :: q22 :: q23 :: q24 :: q25 :: q26 :: q27 :: q28 :: q29 :: q30 :: q31 :: q32 :: q33 :: q34 :: q35 :: q36 :: q37 :: q38 :: q39 :: q40 :: q41 :: q42 :: q43 :: q44 :: q45 :: q46 :: q47 :: x :: r).toArray[48]? = some x := rfl
theorem op49 {q0 q1 q2 q3 q4 q5 q6 q7 q8 q9 q10 q11 q12 q13 q14 q15 q16 q17 q18 q19 q20 q21 q22 q23 q24 q25 q26 q27 q28 q29 q30 q31 q32 q33 q34 q35 q36 q37 q38 q39 q40 q41 q42 q43 q44 q45 q46 q47 q48 x : Oper} {r : List Oper} : (q0 :: q1 :: q2 :: q3 :: q4 :: q5 :: q6 :: q7 :: q8 :: q9 :: q10 :: q11 :: q12 :: q13 :: q14 :: q15 :: q16 :: q17 :: q18 :: q19 :: q20 :: q21 :: q22 :: q23 :: q24 :: q25 :: q26 :: q27 :: q28 :: q29 :: q30 :: q31 :: q32 :: q33 :: q34 :: q35 :: q36 :: q37 :: q38 :: q39 :: q40 :: q41 :: q42 :: q43 :: q44 :: q45 :: q46 :: q47 :: q48 :: x :: r).toArray[49]? = some x := rfl
theorem op50 {q0 q1 q2 q3 q4 q5 q6 q7 q8 q9 q10 q11 q12 q13 q14 q15 q16 q17 q18 q19 q20 q21 q22 q23 q24 q25 q26 q27 q28 q29 q30 q31 q32 q33 q34 q35 q36 q37 q38 q39 q40 q41 q42 q43 q44 q45 q46 q47 q48 q49 x : Oper} {r : List Oper} : (q0 :: q1 :: q2 :: q3 :: q4 :: q5 :: q6 :: q7 :: q8 :: q9 :: q10 :: q11 :: q12 :: q13 :: q14 :: q15 :: q16 :: q17 :: q18 :: q19 :: q20 :: q21 :: q22 :: q23 :: q24 :: q25 :: q26 :: q27 :: q28 :: q29 :: q30 :: q31 :: q32 :: q33 :: q34 :: q35 :: q36 :: q37 :: q38 :: q39 :: q40 :: q41 :: q42 :: q43 :: q44 :: q45 :: q46 :: q47 :: q48 :: q49 :: x :: r).toArray[50]? = some x := rfl
theorem op51 {q0 q1 q2 q3 q4 q5 q6 q7 q8 q9 q10 q11 q12 q13 q14 q15 q16 q17 q18 q19 q20 q21 q22 q23 q24 q25 q26 q27 q28 q29 q30 q31 q32 q33 q34 q35 q36 q37 q38 q39 q40 q41 q42 q43 q44 q45 q46 q47 q48 q49 q50 x : Oper} {r : List Oper} : (q0 :: q1 :: q2 :: q3 :: q4 :: q5 :: q6 :: q7 :: q8 :: q9 :: q10 :: q11 :: q12 :: q13 :: q14 :: q15 :: q16 :: q17 :: q18 :: q19 :: q20 :: q21 :: q22 :: q23 :: q24 :: q25 :: q26 :: q27 :: q28 :: q29 :: q30 :: q31 :: q32 :: q33 :: q34 :: q35 :: q36 :: q37 :: q38 :: q39 :: q40 :: q41 :: q42 :: q43 :: q44 :: q45 :: q46 :: q47 :: q48 :: q49 :: q50 :: x :: r).toArray[51]? = some x := rfl
theorem op52 {q0 q1 q2 q3 q4 q5 q6 q7 q8 q9 q10 q11 q12 q13 q14 q15 q16 q17 q18 q19 q20 q21 q22 q23 q24 q25 q26 q27 q28 q29 q30 q31 q32 q33 q34 q35 q36 q37 q38 q39 q40 q41 q42 q43 q44 q45 q46 q47 q48 q49 q50 q51 x : Oper} {r : List Oper} : (q0 :: q1 :: q2 :: q3 :: q4 :: q5 :: q6 :: q7 :: q8 :: q9 :: q10 :: q11 :: q12 :: q13 :: q14 :: q15 :: q16 :: q17 :: q18 :: q19 :: q20 :: q21 :: q22 :: q23 :: q24 :: q25 :: q26 :: q27 :: q28 :: q29 :: q30 :: q31 :: q32 :: q33 :: q34 :: q35 :: q36 :: q37 :: q38 :: q39 :: q40 :: q41 :: q42 :: q43 :: q44 :: q45 :: q46 :: q47 :: q48 :: q49 :: q50 :: q51 :: x :: r).toArray[52]? = some x := rfl
theorem op53 {q0 q1 q2 q3 q4 q5 q6 q7 q8 q9 q10 q11 q12 q13 q14 q15 q16 q17 q18 q19 q20 q21 q22 q23 q24 q25 q26 q27 q28 q29 q30 q31 q32 q33 q34 q35 q36 q37 q38 q39 q40 q41 q42 q43 q44 q45 q46 q47 q48 q49 q50 q51 q52 x : Oper} {r : List Oper} : (q0 :: q1 :: q2 :: q3 :: q4 :: q5 :: q6 :: q7 :: q8 :: q9 :: q10 :: q11 :: q12 :: q13 :: q14 :: q15 :: q16 :: q17 :: q18 :: q19 :: q20 :: q21 :: q22 :: q23 :: q24 :: q25 :: q26 :: q27 :: q28 :: q29 :: q30 :: q31 :: q32 :: q33 :: q34 :: q35 :: q36 :: q37 :: q38 :: q39 :: q40 :: q41 :: q42 :: q43 :: q44 :: q45 :: q46 :: q47 :: q48 :: q49 :: q50 :: q51 :: q52 :: x :: r).toArray[53]? = some x := rfl
theorem op54 {q0 q1 q2 q3 q4 q5 q6 q7 q8 q9 q10 q11 q12 q13 q14 q15 q16 q17 q18 q19 q20 q21 q22 q23 q24 q25 q26 q27 q28 q29 q30 q31 q32 q33 q34 q35 q36 q37 q38 q39 q40 q41 q42 q43 q44 q45 q46 q47 q48 q49 q50 q51 q52 q53 x : Oper} {r : List Oper} : (q0 :: q1 :: q2 :: q3 :: q4 :: q5 :: q6 :: q7 :: q8 :: q9 :: q10 :: q11 :: q12 :: q13 :: q14 :: q15 :: q16 :: q17 :: q18 :: q19 :: q20 :: q21 :: q22 :: q23 :: q24 :: q25 :: q26 :: q27 :: q28 :: q29 :: q30 :: q31 :: q32 :: q33 :: q34 :: q35 :: q36 :: q37 :: q38 :: q39 :: q40 :: q41 :: q42 :: q43 :: q44 :: q45 :: q46 :: q47 :: q48 :: q49 :: q50 :: q51 :: q52 :: q53 :: x :: r).toArray[54]? = some x := rfl
theorem op55 {q0 q1 q2 q3 q4 q5 q6 q7 q8 q9 q10 q11 q12 q13 q14 q15 q16 q17 q18 q19 q20 q21 q22 q23 q24 q25 q26 q27 q28 q29 q30 q31 q32 q33 q34 q35 q36 q37 q38 q39 q40 q41 q42 q43 q44 q45 q46 q47 q48 q49 q50 q51 q52 q53 q54 x : Oper} {r : List Oper} : (q0 :: q1 :: q2 :: q3 :: q4 :: q5 :: q6 :: q7 :: q8 :: q9 :: q10 :: q11 :: q12 :: q13 :: q14 :: q15 :: q16 :: q17 :: q18 :: q19 :: q20 :: q21 :: q22 :: q23 :: q24 :: q25 :: q26 :: q27 :: q28 :: q29 :: q30 :: q31 :: q32 :: q33 :: q34 :: q35 :: q36 :: q37 :: q38 :: q39 :: q40 :: q41 :: q42 :: q43 :: q44 :: q45 :: q46 :: q47 :: q48 :: q49 :: q50 :: q51 :: q52 :: q53 :: q54 :: x :: r).toArray[55]? = some x := rfl
end Go.Proofs.YtpadpmkfhljiiaaGreat
/- WordSigns: for every two words the law returns true and turns nothing that was there. -/
namespace Go.Proofs.YtpadpmkfhljiiaaGreat
open Go.RowKit
set_option maxHeartbeats 4000000 in
set_option maxRecDepth 100000 in
theorem wsg_c (a0 a1 a2 a3 b0 b1 b2 b3 p0 p1 p2 p3 q0 q1 q2 q3 r0 r1 r2 r3 s0 s1 s2 s3 : Int) (k l : Bool) (WSDiv : ∀ w : World, Calls Tryz.prog 22 #[.agg #[.int .u64 a0, .int .u64 a1, .int .u64 a2, .int .u64 a3], .agg #[.int .u64 b0, .int .u64 b1, .int .u64 b2, .int .u64 b3]] w fun e w' => e = .returned (.agg #[.int .u64 p0, .int .u64 p1, .int .u64 p2, .int .u64 p3]) ∧ Below w.heap.size w w') (RSDiv : ∀ w : World, Calls Tryz.prog 23 #[.agg #[.int .u64 a0, .int .u64 a1, .int .u64 a2, .int .u64 a3], .agg #[.int .u64 b0, .int .u64 b1, .int .u64 b2, .int .u64 b3]] w fun e w' => e = .returned (.agg #[.int .u64 p0, .int .u64 p1, .int .u64 p2, .int .u64 p3]) ∧ Below w.heap.size w w') (WSMod : ∀ w : World, Calls Tryz.prog 24 #[.agg #[.int .u64 a0, .int .u64 a1, .int .u64 a2, .int .u64 a3], .agg #[.int .u64 b0, .int .u64 b1, .int .u64 b2, .int .u64 b3]] w fun e w' => e = .returned (.agg #[.int .u64 q0, .int .u64 q1, .int .u64 q2, .int .u64 q3]) ∧ Below w.heap.size w w') (RSMod : ∀ w : World, Calls Tryz.prog 25 #[.agg #[.int .u64 a0, .int .u64 a1, .int .u64 a2, .int .u64 a3], .agg #[.int .u64 b0, .int .u64 b1, .int .u64 b2, .int .u64 b3]] w fun e w' => e = .returned (.agg #[.int .u64 q0, .int .u64 q1, .int .u64 q2, .int .u64 q3]) ∧ Below w.heap.size w w') (WSar : ∀ w : World, Calls Tryz.prog 30 #[.agg #[.int .u64 a0, .int .u64 a1, .int .u64 a2, .int .u64 a3], .agg #[.int .u64 b0, .int .u64 b1, .int .u64 b2, .int .u64 b3]] w fun e w' => e = .returned (.agg #[.int .u64 r0, .int .u64 r1, .int .u64 r2, .int .u64 r3]) ∧ Below w.heap.size w w') (RSar : ∀ w : World, Calls Tryz.prog 31 #[.agg #[.int .u64 a0, .int .u64 a1, .int .u64 a2, .int .u64 a3], .agg #[.int .u64 b0, .int .u64 b1, .int .u64 b2, .int .u64 b3]] w fun e w' => e = .returned (.agg #[.int .u64 r0, .int .u64 r1, .int .u64 r2, .int .u64 r3]) ∧ Below w.heap.size w w') (WSignExtend : ∀ w : World, Calls Tryz.prog 32 #[.agg #[.int .u64 a0, .int .u64 a1, .int .u64 a2, .int .u64 a3], .agg #[.int .u64 b0, .int .u64 b1, .int .u64 b2, .int .u64 b3]] w fun e w' => e = .returned (.agg #[.int .u64 s0, .int .u64 s1, .int .u64 s2, .int .u64 s3]) ∧ Below w.heap.size w w') (RSignExtend : ∀ w : World, Calls Tryz.prog 33 #[.agg #[.int .u64 a0, .int .u64 a1, .int .u64 a2, .int .u64 a3], .agg #[.int .u64 b0, .int .u64 b1, .int .u64 b2, .int .u64 b3]] w fun e w' => e = .returned (.agg #[.int .u64 s0, .int .u64 s1, .int .u64 s2, .int .u64 s3]) ∧ Below w.heap.size w w') (WSLt : ∀ w : World, Calls Tryz.prog 26 #[.agg #[.int .u64 a0, .int .u64 a1, .int .u64 a2, .int .u64 a3], .agg #[.int .u64 b0, .int .u64 b1, .int .u64 b2, .int .u64 b3]] w fun e w' => e = .returned (.bool k) ∧ Below w.heap.size w w') (RSLt : ∀ w : World, Calls Tryz.prog 27 #[.agg #[.int .u64 a0, .int .u64 a1, .int .u64 a2, .int .u64 a3], .agg #[.int .u64 b0, .int .u64 b1, .int .u64 b2, .int .u64 b3]] w fun e w' => e = .returned (.bool k) ∧ Below w.heap.size w w') (WSGt : ∀ w : World, Calls Tryz.prog 28 #[.agg #[.int .u64 a0, .int .u64 a1, .int .u64 a2, .int .u64 a3], .agg #[.int .u64 b0, .int .u64 b1, .int .u64 b2, .int .u64 b3]] w fun e w' => e = .returned (.bool l) ∧ Below w.heap.size w w') (RSGt : ∀ w : World, Calls Tryz.prog 29 #[.agg #[.int .u64 a0, .int .u64 a1, .int .u64 a2, .int .u64 a3], .agg #[.int .u64 b0, .int .u64 b1, .int .u64 b2, .int .u64 b3]] w fun e w' => e = .returned (.bool l) ∧ Below w.heap.size w w') (w : World) :
    Calls Tryz.prog 4 #[.agg #[.int .u64 a0, .int .u64 a1, .int .u64 a2, .int .u64 a3], .agg #[.int .u64 b0, .int .u64 b1, .int .u64 b2, .int .u64 b3]] w fun e w' => e = .returned (.bool true) ∧ Below w.heap.size w w' := by
  have eqs := eqw_same
  have HWSDiv : Hid (∀ w : World, Calls Tryz.prog 22 #[.agg #[.int .u64 a0, .int .u64 a1, .int .u64 a2, .int .u64 a3], .agg #[.int .u64 b0, .int .u64 b1, .int .u64 b2, .int .u64 b3]] w fun e w' => e = .returned (.agg #[.int .u64 p0, .int .u64 p1, .int .u64 p2, .int .u64 p3]) ∧ Below w.heap.size w w') := WSDiv
  have HRSDiv : Hid (∀ w : World, Calls Tryz.prog 23 #[.agg #[.int .u64 a0, .int .u64 a1, .int .u64 a2, .int .u64 a3], .agg #[.int .u64 b0, .int .u64 b1, .int .u64 b2, .int .u64 b3]] w fun e w' => e = .returned (.agg #[.int .u64 p0, .int .u64 p1, .int .u64 p2, .int .u64 p3]) ∧ Below w.heap.size w w') := RSDiv
  have HWSMod : Hid (∀ w : World, Calls Tryz.prog 24 #[.agg #[.int .u64 a0, .int .u64 a1, .int .u64 a2, .int .u64 a3], .agg #[.int .u64 b0, .int .u64 b1, .int .u64 b2, .int .u64 b3]] w fun e w' => e = .returned (.agg #[.int .u64 q0, .int .u64 q1, .int .u64 q2, .int .u64 q3]) ∧ Below w.heap.size w w') := WSMod
  have HRSMod : Hid (∀ w : World, Calls Tryz.prog 25 #[.agg #[.int .u64 a0, .int .u64 a1, .int .u64 a2, .int .u64 a3], .agg #[.int .u64 b0, .int .u64 b1, .int .u64 b2, .int .u64 b3]] w fun e w' => e = .returned (.agg #[.int .u64 q0, .int .u64 q1, .int .u64 q2, .int .u64 q3]) ∧ Below w.heap.size w w') := RSMod
  have HWSar : Hid (∀ w : World, Calls Tryz.prog 30 #[.agg #[.int .u64 a0, .int .u64 a1, .int .u64 a2, .int .u64 a3], .agg #[.int .u64 b0, .int .u64 b1, .int .u64 b2, .int .u64 b3]] w fun e w' => e = .returned (.agg #[.int .u64 r0, .int .u64 r1, .int .u64 r2, .int .u64 r3]) ∧ Below w.heap.size w w') := WSar
  have HRSar : Hid (∀ w : World, Calls Tryz.prog 31 #[.agg #[.int .u64 a0, .int .u64 a1, .int .u64 a2, .int .u64 a3], .agg #[.int .u64 b0, .int .u64 b1, .int .u64 b2, .int .u64 b3]] w fun e w' => e = .returned (.agg #[.int .u64 r0, .int .u64 r1, .int .u64 r2, .int .u64 r3]) ∧ Below w.heap.size w w') := RSar
  have HWSignExtend : Hid (∀ w : World, Calls Tryz.prog 32 #[.agg #[.int .u64 a0, .int .u64 a1, .int .u64 a2, .int .u64 a3], .agg #[.int .u64 b0, .int .u64 b1, .int .u64 b2, .int .u64 b3]] w fun e w' => e = .returned (.agg #[.int .u64 s0, .int .u64 s1, .int .u64 s2, .int .u64 s3]) ∧ Below w.heap.size w w') := WSignExtend
  have HRSignExtend : Hid (∀ w : World, Calls Tryz.prog 33 #[.agg #[.int .u64 a0, .int .u64 a1, .int .u64 a2, .int .u64 a3], .agg #[.int .u64 b0, .int .u64 b1, .int .u64 b2, .int .u64 b3]] w fun e w' => e = .returned (.agg #[.int .u64 s0, .int .u64 s1, .int .u64 s2, .int .u64 s3]) ∧ Below w.heap.size w w') := RSignExtend
  have HWSLt : Hid (∀ w : World, Calls Tryz.prog 26 #[.agg #[.int .u64 a0, .int .u64 a1, .int .u64 a2, .int .u64 a3], .agg #[.int .u64 b0, .int .u64 b1, .int .u64 b2, .int .u64 b3]] w fun e w' => e = .returned (.bool k) ∧ Below w.heap.size w w') := WSLt
  have HRSLt : Hid (∀ w : World, Calls Tryz.prog 27 #[.agg #[.int .u64 a0, .int .u64 a1, .int .u64 a2, .int .u64 a3], .agg #[.int .u64 b0, .int .u64 b1, .int .u64 b2, .int .u64 b3]] w fun e w' => e = .returned (.bool k) ∧ Below w.heap.size w w') := RSLt
  have HWSGt : Hid (∀ w : World, Calls Tryz.prog 28 #[.agg #[.int .u64 a0, .int .u64 a1, .int .u64 a2, .int .u64 a3], .agg #[.int .u64 b0, .int .u64 b1, .int .u64 b2, .int .u64 b3]] w fun e w' => e = .returned (.bool l) ∧ Below w.heap.size w w') := WSGt
  have HRSGt : Hid (∀ w : World, Calls Tryz.prog 29 #[.agg #[.int .u64 a0, .int .u64 a1, .int .u64 a2, .int .u64 a3], .agg #[.int .u64 b0, .int .u64 b1, .int .u64 b2, .int .u64 b3]] w fun e w' => e = .returned (.bool l) ∧ Below w.heap.size w w') := RSGt
  clear WSDiv RSDiv WSMod RSMod WSar RSar WSignExtend RSignExtend WSLt RSLt WSGt RSGt
  go_enter Tryz.func4, Tryz.ntmps4
  go_upto_region 1 with fail
  have X1 : Hid (Bx w [(w.heap.size + 1, b0, b1, b2, b3), (w.heap.size, a0, a1, a2, a3)] ((w.alloc (.cells #[.int .u64 a0, .int .u64 a1, .int .u64 a2, .int .u64 a3] 24)).alloc (.cells #[.int .u64 b0, .int .u64 b1, .int .u64 b2, .int .u64 b3] 24))) := by
    have h := ((Bx.start w).alloc a0 a1 a2 a3).alloc b0 b1 b2 b3
    (try simp only [World.size_alloc] at h)
    exact h
  generalize ((w.alloc (.cells #[.int .u64 a0, .int .u64 a1, .int .u64 a2, .int .u64 a3] 24)).alloc (.cells #[.int .u64 b0, .int .u64 b1, .int .u64 b2, .int .u64 b3] 24)) = g2 at X1 ⊢
  refine wp_region_held_drew (S := fun w' => Bx w [(w.heap.size + 1, b0, b1, b2, b3), (w.heap.size, a0, a1, a2, a3)] w') (by kernel_rfl) X1.out.drew (fun hHeld => ?_)
  generalize g2.drew = g3 at hHeld ⊢
  clear X1
  refine wpAnyH_take (i := 0) (v := .agg #[.int .u64 a0, .int .u64 a1, .int .u64 a2, .int .u64 a3]) op0 (by kernel_rfl) (by kernel_rfl) (by kernel_rfl) (fun _ _ _ h => h) (Or.inl ⟨by rfl, fun W hS => ?_⟩) hHeld ?_
  · obtain ⟨c0, c1, c2, c3, _⟩ := hS.f0 (List.Mem.tail _ (List.Mem.head _))
    go_simp
  simp only [Act.put, List.setIfInBounds_toArray, List.set_cons_zero, List.set_cons_succ]
  refine wpAnyH_take (i := 1) (v := .agg #[.int .u64 b0, .int .u64 b1, .int .u64 b2, .int .u64 b3]) op1 (by kernel_rfl) (by kernel_rfl) (by kernel_rfl) (fun _ _ _ h => h) (Or.inl ⟨by rfl, fun W hS => ?_⟩) hHeld ?_
  · obtain ⟨c0, c1, c2, c3, _⟩ := hS.f0 (List.Mem.head _)
    go_simp
  simp only [Act.put, List.setIfInBounds_toArray, List.set_cons_zero, List.set_cons_succ]
  refine wpAnyH_take (i := 3) (v := .agg #[.int .u64 a0, .int .u64 a1, .int .u64 a2, .int .u64 a3]) op3 (by kernel_rfl) (by kernel_rfl) (by kernel_rfl) (fun _ _ _ h => h) (Or.inl ⟨by rfl, fun W hS => ?_⟩) hHeld ?_
  · obtain ⟨c0, c1, c2, c3, _⟩ := hS.f0 (List.Mem.tail _ (List.Mem.head _))
    go_simp
  simp only [Act.put, List.setIfInBounds_toArray, List.set_cons_zero, List.set_cons_succ]
  refine wpAnyH_take (i := 4) (v := .agg #[.int .u64 b0, .int .u64 b1, .int .u64 b2, .int .u64 b3]) op4 (by kernel_rfl) (by kernel_rfl) (by kernel_rfl) (fun _ _ _ h => h) (Or.inl ⟨by rfl, fun W hS => ?_⟩) hHeld ?_
  · obtain ⟨c0, c1, c2, c3, _⟩ := hS.f0 (List.Mem.head _)
    go_simp
  simp only [Act.put, List.setIfInBounds_toArray, List.set_cons_zero, List.set_cons_succ]
  refine wpAnyH_ready (rs := [2]) (by kernel_rfl) (by simp) ?_
  refine AllReadyH.cons op2 (fun K hK => ?_) AllReadyH.nil
  rw [if_pos (by rfl)]
  go_simp
  refine (HWSDiv.out _).mono ?_
  rintro e g4 ⟨rfl, hB⟩
  have x5 : Bx w [(w.heap.size + 1, b0, b1, b2, b3), (w.heap.size, a0, a1, a2, a3)] g4 := hHeld.past hB
  clear hB hHeld
  (try go_wp2_with fail)
  refine hK.out _ _ x5 (fun _ => ?_)
  clear hK K
  refine wpAnyH_ready (rs := [5]) (by kernel_rfl) (by simp) ?_
  refine AllReadyH.cons op5 (fun K hK => ?_) AllReadyH.nil
  rw [if_pos (by rfl)]
  go_simp
  refine (HRSDiv.out _).mono ?_
  rintro e g6 ⟨rfl, hB⟩
  have x7 : Bx w [(w.heap.size + 1, b0, b1, b2, b3), (w.heap.size, a0, a1, a2, a3)] g6 := x5.past hB
  clear hB x5
  (try go_wp2_with fail)
  refine hK.out _ _ x7 (fun _ => ?_)
  clear hK K
  refine wpAnyH_take (i := 6) (v := .bool false) op6 (by kernel_rfl) (by kernel_rfl) (by kernel_rfl) (fun _ _ _ h => h) (Or.inl ⟨by rfl, fun W hS => ?_⟩) x7 ?_
  · go_simp
  simp only [Act.put, List.setIfInBounds_toArray, List.set_cons_zero, List.set_cons_succ]
  refine wpAnyH_take (i := 7) (v := .bool false) op7 (by kernel_rfl) (by kernel_rfl) (by kernel_rfl) (fun _ _ _ h => h) (Or.inl ⟨by rfl, fun W hS => ?_⟩) x7 ?_
  · go_simp
  simp only [Act.put, List.setIfInBounds_toArray, List.set_cons_zero, List.set_cons_succ]
  refine wpAnyH_take (i := 8) (v := .agg #[.int .u64 a0, .int .u64 a1, .int .u64 a2, .int .u64 a3]) op8 (by kernel_rfl) (by kernel_rfl) (by kernel_rfl) (fun _ _ _ h => h) (Or.inl ⟨by rfl, fun W hS => ?_⟩) x7 ?_
  · obtain ⟨c0, c1, c2, c3, _⟩ := hS.f0 (List.Mem.tail _ (List.Mem.head _))
    go_simp
  simp only [Act.put, List.setIfInBounds_toArray, List.set_cons_zero, List.set_cons_succ]
  refine wpAnyH_take (i := 9) (v := .agg #[.int .u64 b0, .int .u64 b1, .int .u64 b2, .int .u64 b3]) op9 (by kernel_rfl) (by kernel_rfl) (by kernel_rfl) (fun _ _ _ h => h) (Or.inl ⟨by rfl, fun W hS => ?_⟩) x7 ?_
  · obtain ⟨c0, c1, c2, c3, _⟩ := hS.f0 (List.Mem.head _)
    go_simp
  simp only [Act.put, List.setIfInBounds_toArray, List.set_cons_zero, List.set_cons_succ]
  refine wpAnyH_take (i := 11) (v := .agg #[.int .u64 a0, .int .u64 a1, .int .u64 a2, .int .u64 a3]) op11 (by kernel_rfl) (by kernel_rfl) (by kernel_rfl) (fun _ _ _ h => h) (Or.inl ⟨by rfl, fun W hS => ?_⟩) x7 ?_
  · obtain ⟨c0, c1, c2, c3, _⟩ := hS.f0 (List.Mem.tail _ (List.Mem.head _))
    go_simp
  simp only [Act.put, List.setIfInBounds_toArray, List.set_cons_zero, List.set_cons_succ]
  refine wpAnyH_take (i := 12) (v := .agg #[.int .u64 b0, .int .u64 b1, .int .u64 b2, .int .u64 b3]) op12 (by kernel_rfl) (by kernel_rfl) (by kernel_rfl) (fun _ _ _ h => h) (Or.inl ⟨by rfl, fun W hS => ?_⟩) x7 ?_
  · obtain ⟨c0, c1, c2, c3, _⟩ := hS.f0 (List.Mem.head _)
    go_simp
  simp only [Act.put, List.setIfInBounds_toArray, List.set_cons_zero, List.set_cons_succ]
  refine wpAnyH_ready (rs := [10]) (by kernel_rfl) (by simp) ?_
  refine AllReadyH.cons op10 (fun K hK => ?_) AllReadyH.nil
  rw [if_pos (by rfl)]
  go_simp
  refine (HWSMod.out _).mono ?_
  rintro e g8 ⟨rfl, hB⟩
  have x9 : Bx w [(w.heap.size + 1, b0, b1, b2, b3), (w.heap.size, a0, a1, a2, a3)] g8 := x7.past hB
  clear hB x7
  (try go_wp2_with fail)
  refine hK.out _ _ x9 (fun _ => ?_)
  clear hK K
  refine wpAnyH_ready (rs := [13]) (by kernel_rfl) (by simp) ?_
  refine AllReadyH.cons op13 (fun K hK => ?_) AllReadyH.nil
  rw [if_pos (by rfl)]
  go_simp
  refine (HRSMod.out _).mono ?_
  rintro e g10 ⟨rfl, hB⟩
  have x11 : Bx w [(w.heap.size + 1, b0, b1, b2, b3), (w.heap.size, a0, a1, a2, a3)] g10 := x9.past hB
  clear hB x9
  (try go_wp2_with fail)
  refine hK.out _ _ x11 (fun _ => ?_)
  clear hK K
  refine wpAnyH_take (i := 14) (v := .bool false) op14 (by kernel_rfl) (by kernel_rfl) (by kernel_rfl) (fun _ _ _ h => h) (Or.inl ⟨by rfl, fun W hS => ?_⟩) x11 ?_
  · go_simp
  simp only [Act.put, List.setIfInBounds_toArray, List.set_cons_zero, List.set_cons_succ]
  refine wpAnyH_take (i := 15) (v := .bool false) op15 (by kernel_rfl) (by kernel_rfl) (by kernel_rfl) (fun _ _ _ h => h) (Or.inl ⟨by rfl, fun W hS => ?_⟩) x11 ?_
  · go_simp
  simp only [Act.put, List.setIfInBounds_toArray, List.set_cons_zero, List.set_cons_succ]
  refine wpAnyH_take (i := 16) (v := .bool false) op16 (by kernel_rfl) (by kernel_rfl) (by kernel_rfl) (fun _ _ _ h => h) (Or.inl ⟨by rfl, fun W hS => ?_⟩) x11 ?_
  · go_simp
  simp only [Act.put, List.setIfInBounds_toArray, List.set_cons_zero, List.set_cons_succ]
  refine wpAnyH_take (i := 17) (v := .agg #[.int .u64 a0, .int .u64 a1, .int .u64 a2, .int .u64 a3]) op17 (by kernel_rfl) (by kernel_rfl) (by kernel_rfl) (fun _ _ _ h => h) (Or.inl ⟨by rfl, fun W hS => ?_⟩) x11 ?_
  · obtain ⟨c0, c1, c2, c3, _⟩ := hS.f0 (List.Mem.tail _ (List.Mem.head _))
    go_simp
  simp only [Act.put, List.setIfInBounds_toArray, List.set_cons_zero, List.set_cons_succ]
  refine wpAnyH_take (i := 18) (v := .agg #[.int .u64 b0, .int .u64 b1, .int .u64 b2, .int .u64 b3]) op18 (by kernel_rfl) (by kernel_rfl) (by kernel_rfl) (fun _ _ _ h => h) (Or.inl ⟨by rfl, fun W hS => ?_⟩) x11 ?_
  · obtain ⟨c0, c1, c2, c3, _⟩ := hS.f0 (List.Mem.head _)
    go_simp
  simp only [Act.put, List.setIfInBounds_toArray, List.set_cons_zero, List.set_cons_succ]
  refine wpAnyH_take (i := 20) (v := .agg #[.int .u64 a0, .int .u64 a1, .int .u64 a2, .int .u64 a3]) op20 (by kernel_rfl) (by kernel_rfl) (by kernel_rfl) (fun _ _ _ h => h) (Or.inl ⟨by rfl, fun W hS => ?_⟩) x11 ?_
  · obtain ⟨c0, c1, c2, c3, _⟩ := hS.f0 (List.Mem.tail _ (List.Mem.head _))
    go_simp
  simp only [Act.put, List.setIfInBounds_toArray, List.set_cons_zero, List.set_cons_succ]
  refine wpAnyH_take (i := 21) (v := .agg #[.int .u64 b0, .int .u64 b1, .int .u64 b2, .int .u64 b3]) op21 (by kernel_rfl) (by kernel_rfl) (by kernel_rfl) (fun _ _ _ h => h) (Or.inl ⟨by rfl, fun W hS => ?_⟩) x11 ?_
  · obtain ⟨c0, c1, c2, c3, _⟩ := hS.f0 (List.Mem.head _)
    go_simp
  simp only [Act.put, List.setIfInBounds_toArray, List.set_cons_zero, List.set_cons_succ]
  refine wpAnyH_ready (rs := [19]) (by kernel_rfl) (by simp) ?_
  refine AllReadyH.cons op19 (fun K hK => ?_) AllReadyH.nil
  rw [if_pos (by rfl)]
  go_simp
  refine (HWSLt.out _).mono ?_
  rintro e g12 ⟨rfl, hB⟩
  have x13 : Bx w [(w.heap.size + 1, b0, b1, b2, b3), (w.heap.size, a0, a1, a2, a3)] g12 := x11.past hB
  clear hB x11
  (try go_wp2_with fail)
  refine hK.out _ _ x13 (fun _ => ?_)
  clear hK K
  refine wpAnyH_ready (rs := [22]) (by kernel_rfl) (by simp) ?_
  refine AllReadyH.cons op22 (fun K hK => ?_) AllReadyH.nil
  rw [if_pos (by rfl)]
  go_simp
  refine (HRSLt.out _).mono ?_
  rintro e g14 ⟨rfl, hB⟩
  have x15 : Bx w [(w.heap.size + 1, b0, b1, b2, b3), (w.heap.size, a0, a1, a2, a3)] g14 := x13.past hB
  clear hB x13
  (try go_wp2_with fail)
  refine hK.out _ _ x15 (fun _ => ?_)
  clear hK K
  refine wpAnyH_take (i := 23) (v := .bool false) op23 (by kernel_rfl) (by kernel_rfl) (by kernel_rfl) (fun _ _ _ h => h) (Or.inl ⟨by rfl, fun W hS => ?_⟩) x15 ?_
  · go_simp
  simp only [Act.put, List.setIfInBounds_toArray, List.set_cons_zero, List.set_cons_succ]
  refine wpAnyH_take (i := 24) (v := .bool false) op24 (by kernel_rfl) (by kernel_rfl) (by kernel_rfl) (fun _ _ _ h => h) (Or.inl ⟨by rfl, fun W hS => ?_⟩) x15 ?_
  · go_simp
  simp only [Act.put, List.setIfInBounds_toArray, List.set_cons_zero, List.set_cons_succ]
  refine wpAnyH_take (i := 25) (v := .bool false) op25 (by kernel_rfl) (by kernel_rfl) (by kernel_rfl) (fun _ _ _ h => h) (Or.inl ⟨by rfl, fun W hS => ?_⟩) x15 ?_
  · go_simp
  simp only [Act.put, List.setIfInBounds_toArray, List.set_cons_zero, List.set_cons_succ]
  refine wpAnyH_take (i := 26) (v := .agg #[.int .u64 a0, .int .u64 a1, .int .u64 a2, .int .u64 a3]) op26 (by kernel_rfl) (by kernel_rfl) (by kernel_rfl) (fun _ _ _ h => h) (Or.inl ⟨by rfl, fun W hS => ?_⟩) x15 ?_
  · obtain ⟨c0, c1, c2, c3, _⟩ := hS.f0 (List.Mem.tail _ (List.Mem.head _))
    go_simp
  simp only [Act.put, List.setIfInBounds_toArray, List.set_cons_zero, List.set_cons_succ]
  refine wpAnyH_take (i := 27) (v := .agg #[.int .u64 b0, .int .u64 b1, .int .u64 b2, .int .u64 b3]) op27 (by kernel_rfl) (by kernel_rfl) (by kernel_rfl) (fun _ _ _ h => h) (Or.inl ⟨by rfl, fun W hS => ?_⟩) x15 ?_
  · obtain ⟨c0, c1, c2, c3, _⟩ := hS.f0 (List.Mem.head _)
    go_simp
  simp only [Act.put, List.setIfInBounds_toArray, List.set_cons_zero, List.set_cons_succ]
  refine wpAnyH_take (i := 29) (v := .agg #[.int .u64 a0, .int .u64 a1, .int .u64 a2, .int .u64 a3]) op29 (by kernel_rfl) (by kernel_rfl) (by kernel_rfl) (fun _ _ _ h => h) (Or.inl ⟨by rfl, fun W hS => ?_⟩) x15 ?_
  · obtain ⟨c0, c1, c2, c3, _⟩ := hS.f0 (List.Mem.tail _ (List.Mem.head _))
    go_simp
  simp only [Act.put, List.setIfInBounds_toArray, List.set_cons_zero, List.set_cons_succ]
  refine wpAnyH_take (i := 30) (v := .agg #[.int .u64 b0, .int .u64 b1, .int .u64 b2, .int .u64 b3]) op30 (by kernel_rfl) (by kernel_rfl) (by kernel_rfl) (fun _ _ _ h => h) (Or.inl ⟨by rfl, fun W hS => ?_⟩) x15 ?_
  · obtain ⟨c0, c1, c2, c3, _⟩ := hS.f0 (List.Mem.head _)
    go_simp
  simp only [Act.put, List.setIfInBounds_toArray, List.set_cons_zero, List.set_cons_succ]
  refine wpAnyH_ready (rs := [28]) (by kernel_rfl) (by simp) ?_
  refine AllReadyH.cons op28 (fun K hK => ?_) AllReadyH.nil
  rw [if_pos (by rfl)]
  go_simp
  refine (HWSGt.out _).mono ?_
  rintro e g16 ⟨rfl, hB⟩
  have x17 : Bx w [(w.heap.size + 1, b0, b1, b2, b3), (w.heap.size, a0, a1, a2, a3)] g16 := x15.past hB
  clear hB x15
  (try go_wp2_with fail)
  refine hK.out _ _ x17 (fun _ => ?_)
  clear hK K
  refine wpAnyH_ready (rs := [31]) (by kernel_rfl) (by simp) ?_
  refine AllReadyH.cons op31 (fun K hK => ?_) AllReadyH.nil
  rw [if_pos (by rfl)]
  go_simp
  refine (HRSGt.out _).mono ?_
  rintro e g18 ⟨rfl, hB⟩
  have x19 : Bx w [(w.heap.size + 1, b0, b1, b2, b3), (w.heap.size, a0, a1, a2, a3)] g18 := x17.past hB
  clear hB x17
  (try go_wp2_with fail)
  refine hK.out _ _ x19 (fun _ => ?_)
  clear hK K
  refine wpAnyH_take (i := 32) (v := .bool false) op32 (by kernel_rfl) (by kernel_rfl) (by kernel_rfl) (fun _ _ _ h => h) (Or.inl ⟨by rfl, fun W hS => ?_⟩) x19 ?_
  · go_simp
  simp only [Act.put, List.setIfInBounds_toArray, List.set_cons_zero, List.set_cons_succ]
  refine wpAnyH_take (i := 33) (v := .bool false) op33 (by kernel_rfl) (by kernel_rfl) (by kernel_rfl) (fun _ _ _ h => h) (Or.inl ⟨by rfl, fun W hS => ?_⟩) x19 ?_
  · go_simp
  simp only [Act.put, List.setIfInBounds_toArray, List.set_cons_zero, List.set_cons_succ]
  refine wpAnyH_done (by kernel_rfl) ?_ _
  have X20 : Hid (Bx w [(w.heap.size + 1, b0, b1, b2, b3), (w.heap.size, a0, a1, a2, a3)] g18) := x19
  clear x19
  go_upto_region 3 with fail
  refine wp_region_held_drew (S := fun w' => Bx w [(w.heap.size + 1, b0, b1, b2, b3), (w.heap.size, a0, a1, a2, a3)] w') (by kernel_rfl) X20.out.drew (fun hHeld => ?_)
  generalize g18.drew = g21 at hHeld ⊢
  clear X20
  refine wpAnyH_take (i := 0) (v := .agg #[.int .u64 a0, .int .u64 a1, .int .u64 a2, .int .u64 a3]) op0 (by kernel_rfl) (by kernel_rfl) (by kernel_rfl) (fun _ _ _ h => h) (Or.inl ⟨by rfl, fun W hS => ?_⟩) hHeld ?_
  · obtain ⟨c0, c1, c2, c3, _⟩ := hS.f0 (List.Mem.tail _ (List.Mem.head _))
    go_simp
  simp only [Act.put, List.setIfInBounds_toArray, List.set_cons_zero, List.set_cons_succ]
  refine wpAnyH_take (i := 1) (v := .agg #[.int .u64 b0, .int .u64 b1, .int .u64 b2, .int .u64 b3]) op1 (by kernel_rfl) (by kernel_rfl) (by kernel_rfl) (fun _ _ _ h => h) (Or.inl ⟨by rfl, fun W hS => ?_⟩) hHeld ?_
  · obtain ⟨c0, c1, c2, c3, _⟩ := hS.f0 (List.Mem.head _)
    go_simp
  simp only [Act.put, List.setIfInBounds_toArray, List.set_cons_zero, List.set_cons_succ]
  refine wpAnyH_take (i := 3) (v := .agg #[.int .u64 a0, .int .u64 a1, .int .u64 a2, .int .u64 a3]) op3 (by kernel_rfl) (by kernel_rfl) (by kernel_rfl) (fun _ _ _ h => h) (Or.inl ⟨by rfl, fun W hS => ?_⟩) hHeld ?_
  · obtain ⟨c0, c1, c2, c3, _⟩ := hS.f0 (List.Mem.tail _ (List.Mem.head _))
    go_simp
  simp only [Act.put, List.setIfInBounds_toArray, List.set_cons_zero, List.set_cons_succ]
  refine wpAnyH_take (i := 4) (v := .agg #[.int .u64 b0, .int .u64 b1, .int .u64 b2, .int .u64 b3]) op4 (by kernel_rfl) (by kernel_rfl) (by kernel_rfl) (fun _ _ _ h => h) (Or.inl ⟨by rfl, fun W hS => ?_⟩) hHeld ?_
  · obtain ⟨c0, c1, c2, c3, _⟩ := hS.f0 (List.Mem.head _)
    go_simp
  simp only [Act.put, List.setIfInBounds_toArray, List.set_cons_zero, List.set_cons_succ]
  refine wpAnyH_ready (rs := [2]) (by kernel_rfl) (by simp) ?_
  refine AllReadyH.cons op2 (fun K hK => ?_) AllReadyH.nil
  rw [if_pos (by rfl)]
  go_simp
  refine (HWSar.out _).mono ?_
  rintro e g22 ⟨rfl, hB⟩
  have x23 : Bx w [(w.heap.size + 1, b0, b1, b2, b3), (w.heap.size, a0, a1, a2, a3)] g22 := hHeld.past hB
  clear hB hHeld
  (try go_wp2_with fail)
  refine hK.out _ _ x23 (fun _ => ?_)
  clear hK K
  refine wpAnyH_ready (rs := [5]) (by kernel_rfl) (by simp) ?_
  refine AllReadyH.cons op5 (fun K hK => ?_) AllReadyH.nil
  rw [if_pos (by rfl)]
  go_simp
  refine (HRSar.out _).mono ?_
  rintro e g24 ⟨rfl, hB⟩
  have x25 : Bx w [(w.heap.size + 1, b0, b1, b2, b3), (w.heap.size, a0, a1, a2, a3)] g24 := x23.past hB
  clear hB x23
  (try go_wp2_with fail)
  refine hK.out _ _ x25 (fun _ => ?_)
  clear hK K
  refine wpAnyH_take (i := 6) (v := .bool true) op6 (by kernel_rfl) (by kernel_rfl) (by kernel_rfl) (fun _ _ _ h => h) (Or.inl ⟨by rfl, fun W hS => ?_⟩) x25 ?_
  · go_simp
  simp only [Act.put, List.setIfInBounds_toArray, List.set_cons_zero, List.set_cons_succ]
  refine wpAnyH_take (i := 7) (v := .bool true) op7 (by kernel_rfl) (by kernel_rfl) (by kernel_rfl) (fun _ _ _ h => h) (Or.inl ⟨by rfl, fun W hS => ?_⟩) x25 ?_
  · go_simp
  simp only [Act.put, List.setIfInBounds_toArray, List.set_cons_zero, List.set_cons_succ]
  refine wpAnyH_take (i := 8) (v := .agg #[.int .u64 a0, .int .u64 a1, .int .u64 a2, .int .u64 a3]) op8 (by kernel_rfl) (by kernel_rfl) (by kernel_rfl) (fun _ _ _ h => h) (Or.inl ⟨by rfl, fun W hS => ?_⟩) x25 ?_
  · obtain ⟨c0, c1, c2, c3, _⟩ := hS.f0 (List.Mem.tail _ (List.Mem.head _))
    go_simp
  simp only [Act.put, List.setIfInBounds_toArray, List.set_cons_zero, List.set_cons_succ]
  refine wpAnyH_take (i := 9) (v := .agg #[.int .u64 b0, .int .u64 b1, .int .u64 b2, .int .u64 b3]) op9 (by kernel_rfl) (by kernel_rfl) (by kernel_rfl) (fun _ _ _ h => h) (Or.inl ⟨by rfl, fun W hS => ?_⟩) x25 ?_
  · obtain ⟨c0, c1, c2, c3, _⟩ := hS.f0 (List.Mem.head _)
    go_simp
  simp only [Act.put, List.setIfInBounds_toArray, List.set_cons_zero, List.set_cons_succ]
  refine wpAnyH_take (i := 11) (v := .agg #[.int .u64 a0, .int .u64 a1, .int .u64 a2, .int .u64 a3]) op11 (by kernel_rfl) (by kernel_rfl) (by kernel_rfl) (fun _ _ _ h => h) (Or.inl ⟨by rfl, fun W hS => ?_⟩) x25 ?_
  · obtain ⟨c0, c1, c2, c3, _⟩ := hS.f0 (List.Mem.tail _ (List.Mem.head _))
    go_simp
  simp only [Act.put, List.setIfInBounds_toArray, List.set_cons_zero, List.set_cons_succ]
  refine wpAnyH_take (i := 12) (v := .agg #[.int .u64 b0, .int .u64 b1, .int .u64 b2, .int .u64 b3]) op12 (by kernel_rfl) (by kernel_rfl) (by kernel_rfl) (fun _ _ _ h => h) (Or.inl ⟨by rfl, fun W hS => ?_⟩) x25 ?_
  · obtain ⟨c0, c1, c2, c3, _⟩ := hS.f0 (List.Mem.head _)
    go_simp
  simp only [Act.put, List.setIfInBounds_toArray, List.set_cons_zero, List.set_cons_succ]
  refine wpAnyH_ready (rs := [10]) (by kernel_rfl) (by simp) ?_
  refine AllReadyH.cons op10 (fun K hK => ?_) AllReadyH.nil
  rw [if_pos (by rfl)]
  go_simp
  refine (HWSignExtend.out _).mono ?_
  rintro e g26 ⟨rfl, hB⟩
  have x27 : Bx w [(w.heap.size + 1, b0, b1, b2, b3), (w.heap.size, a0, a1, a2, a3)] g26 := x25.past hB
  clear hB x25
  (try go_wp2_with fail)
  refine hK.out _ _ x27 (fun _ => ?_)
  clear hK K
  refine wpAnyH_ready (rs := [13]) (by kernel_rfl) (by simp) ?_
  refine AllReadyH.cons op13 (fun K hK => ?_) AllReadyH.nil
  rw [if_pos (by rfl)]
  go_simp
  refine (HRSignExtend.out _).mono ?_
  rintro e g28 ⟨rfl, hB⟩
  have x29 : Bx w [(w.heap.size + 1, b0, b1, b2, b3), (w.heap.size, a0, a1, a2, a3)] g28 := x27.past hB
  clear hB x27
  (try go_wp2_with fail)
  refine hK.out _ _ x29 (fun _ => ?_)
  clear hK K
  refine wpAnyH_take (i := 14) (v := .bool true) op14 (by kernel_rfl) (by kernel_rfl) (by kernel_rfl) (fun _ _ _ h => h) (Or.inl ⟨by rfl, fun W hS => ?_⟩) x29 ?_
  · go_simp
  simp only [Act.put, List.setIfInBounds_toArray, List.set_cons_zero, List.set_cons_succ]
  refine wpAnyH_take (i := 15) (v := .bool true) op15 (by kernel_rfl) (by kernel_rfl) (by kernel_rfl) (fun _ _ _ h => h) (Or.inl ⟨by rfl, fun W hS => ?_⟩) x29 ?_
  · go_simp
  simp only [Act.put, List.setIfInBounds_toArray, List.set_cons_zero, List.set_cons_succ]
  refine wpAnyH_take (i := 16) (v := .bool true) op16 (by kernel_rfl) (by kernel_rfl) (by kernel_rfl) (fun _ _ _ h => h) (Or.inl ⟨by rfl, fun W hS => ?_⟩) x29 ?_
  · go_simp
  simp only [Act.put, List.setIfInBounds_toArray, List.set_cons_zero, List.set_cons_succ]
  refine wpAnyH_ready (rs := [17]) (by kernel_rfl) (by simp) ?_
  refine AllReadyH.cons op17 (fun K hK => ?_) AllReadyH.nil
  rw [if_pos (by rfl)]
  go_simp
  refine (awake_any _).mono ?_
  rintro e g30 ⟨rfl, hB⟩
  have x31 : Bx w [(w.heap.size + 1, b0, b1, b2, b3), (w.heap.size, a0, a1, a2, a3)] g30 := x29.past hB
  clear hB x29
  (try go_wp2_with fail)
  refine hK.out _ _ x31 (fun _ => ?_)
  clear hK K
  refine wpAnyH_take (i := 18) (v := .bool true) op18 (by kernel_rfl) (by kernel_rfl) (by kernel_rfl) (fun _ _ _ h => h) (Or.inl ⟨by rfl, fun W hS => ?_⟩) x31 ?_
  · go_simp
  simp only [Act.put, List.setIfInBounds_toArray, List.set_cons_zero, List.set_cons_succ]
  refine wpAnyH_take (i := 19) (v := .bool true) op19 (by kernel_rfl) (by kernel_rfl) (by kernel_rfl) (fun _ _ _ h => h) (Or.inl ⟨by rfl, fun W hS => ?_⟩) x31 ?_
  · go_simp
  simp only [Act.put, List.setIfInBounds_toArray, List.set_cons_zero, List.set_cons_succ]
  refine wpAnyH_done (by kernel_rfl) ?_ _
  have X32 : Hid (Bx w [(w.heap.size + 1, b0, b1, b2, b3), (w.heap.size, a0, a1, a2, a3)] g30) := x31
  clear x31
  go_wp2
  go_ret
  exact ⟨rfl, X32.out.bel⟩
theorem wordSigns_walk (x y : Int) (a0 a1 a2 a3 b0 b1 b2 b3 : Int) (w : World) (ha : IsW x a0 a1 a2 a3) (hb : IsW y b0 b1 b2 b3) :
    Calls Tryz.prog 4 #[.agg #[.int .u64 a0, .int .u64 a1, .int .u64 a2, .int .u64 a3], .agg #[.int .u64 b0, .int .u64 b1, .int .u64 b2, .int .u64 b3]] w fun e w' => e = .returned (.bool true) ∧ Below w.heap.size w w' := by
  obtain ⟨p0, p1, p2, p3, WSDiv, RSDiv⟩ := pair_sdiv ha hb
  obtain ⟨q0, q1, q2, q3, WSMod, RSMod⟩ := pair_smod ha hb
  obtain ⟨r0, r1, r2, r3, WSar, RSar⟩ := pair_sar ha hb
  obtain ⟨s0, s1, s2, s3, WSignExtend, RSignExtend⟩ := pair_signExtend ha hb
  obtain ⟨k, WSLt, RSLt⟩ := pair_slt ha hb
  obtain ⟨l, WSGt, RSGt⟩ := pair_sgt ha hb
  exact wsg_c a0 a1 a2 a3 b0 b1 b2 b3 p0 p1 p2 p3 q0 q1 q2 q3 r0 r1 r2 r3 s0 s1 s2 s3 k l WSDiv RSDiv WSMod RSMod WSar RSar WSignExtend RSignExtend WSLt RSLt WSGt RSGt w
end Go.Proofs.YtpadpmkfhljiiaaGreat
