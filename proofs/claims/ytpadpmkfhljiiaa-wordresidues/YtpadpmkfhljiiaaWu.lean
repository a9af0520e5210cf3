/- shiftUp and shiftDown, whatever the count: the answer as four letters, and what it is worth. -/
import Derived.Test.YtpadpmkfhljiiaaWs
import Derived.Test.YtpadpmkfhljiiaaWt
import Derived.Test.YtpadpmkfhljiiaaNt
namespace Go.Proofs.Ytpadpmkfhljiiaa
open Go.RowKit

theorem q4 (n : Int) (h0 : 0 ≤ n) (h1 : n < 256) : n / 64 = 0 ∨ n / 64 = 1 ∨ n / 64 = 2 ∨ n / 64 = 3 := by omega
theorem pow_0 (n : Int) (hq : n / 64 = 0) (h0 : 0 ≤ n) : (2 : Int) ^ n.toNat = 2 ^ (n % 64).toNat := by
  rw [pow_split n 0 _ hq rfl h0, show (0 : Int).toNat = 0 from rfl, Int.pow_zero, Int.mul_one]
theorem pow_1 (n : Int) (hq : n / 64 = 1) (h0 : 0 ≤ n) : (2 : Int) ^ n.toNat = 2 ^ (n % 64).toNat * Bd := by
  rw [pow_split n 1 _ hq rfl h0, show (1 : Int).toNat = 1 from rfl, Int.pow_succ, Int.pow_zero, Int.one_mul]; rfl
theorem pow_2 (n : Int) (hq : n / 64 = 2) (h0 : 0 ≤ n) : (2 : Int) ^ n.toNat = 2 ^ (n % 64).toNat * (Bd * Bd) := by
  rw [pow_split n 2 _ hq rfl h0, show (2 : Int).toNat = 2 from rfl, Int.pow_succ, Int.pow_succ, Int.pow_zero, Int.one_mul]; rfl
theorem pow_3 (n : Int) (hq : n / 64 = 3) (h0 : 0 ≤ n) : (2 : Int) ^ n.toNat = 2 ^ (n % 64).toNat * (Bd * Bd * Bd) := by
  rw [pow_split n 3 _ hq rfl h0, show (3 : Int).toNat = 3 from rfl, Int.pow_succ, Int.pow_succ, Int.pow_succ, Int.pow_zero, Int.one_mul]; rfl
theorem shiftUp_ex (x n : Int) (a0 a1 a2 a3 : Int) (ha : IsW x a0 a1 a2 a3) (h0 : 0 ≤ n) (h1 : n < 256) : ∃ s0 s1 s2 s3 : Int, (∀ w : World, Calls Try.prog 86 #[.agg #[.int .u64 a0, .int .u64 a1, .int .u64 a2, .int .u64 a3], .int .u64 n] w fun e w' => e = .returned (.agg #[.int .u64 s0, .int .u64 s1, .int .u64 s2, .int .u64 s3]) ∧ Below w.heap.size w w') ∧ IsW (x * 2 ^ n.toNat) s0 s1 s2 s3 := by
  have r0 : 0 ≤ n % 64 := by omega
  have r1 : n % 64 < 64 := by omega
  rcases q4 n h0 h1 with hq | hq | hq | hq
  · exact ⟨_, _, _, _, fun w => shiftUp0 a0 a1 a2 a3 n (n % 64) w h0 h1 hq rfl r0 r1, by rw [pow_0 n hq h0]; exact upW0 ha (n % 64) r0 r1⟩
  · exact ⟨_, _, _, _, fun w => shiftUp1 a0 a1 a2 a3 n (n % 64) w h0 h1 hq rfl r0 r1, by rw [pow_1 n hq h0]; exact upW1 ha (n % 64) r0 r1⟩
  · exact ⟨_, _, _, _, fun w => shiftUp2 a0 a1 a2 a3 n (n % 64) w h0 h1 hq rfl r0 r1, by rw [pow_2 n hq h0]; exact upW2 ha (n % 64) r0 r1⟩
  · exact ⟨_, _, _, _, fun w => shiftUp3 a0 a1 a2 a3 n (n % 64) w h0 h1 hq rfl r0 r1, by rw [pow_3 n hq h0]; exact upW3 ha (n % 64) r0 r1⟩

theorem down0 {P z0 z1 z2 z3 f s0 s1 s2 s3 : Int} (e0 : s0 * P = z0 - z0 % P + Bd * (z1 % P)) (e1 : s1 * P = z1 - z1 % P + Bd * (z2 % P)) (e2 : s2 * P = z2 - z2 % P + Bd * (z3 % P)) (e3 : s3 * P = z3 - z3 % P + Bd * (f % P))  (hm : z0 % P = 0) : (V s0 s1 s2 s3 * P) % MM = V z0 z1 z2 z3 % MM := by
  have hh : V s0 s1 s2 s3 * P = (s0 * P + Bd * (s1 * P + Bd * (s2 * P + Bd * (s3 * P)))) := by unfold V; grind
  rw [hh, e0, e1, e2, e3, hm]
  generalize f % P = g
  generalize z1 % P = g1
  generalize z2 % P = g2
  generalize z3 % P = g3
  unfold V Bd MM; omega
theorem down1 {P z0 z1 z2 z3 f s0 s1 s2 s3 : Int} (e0 : s0 * P = z1 - z1 % P + Bd * (z2 % P)) (e1 : s1 * P = z2 - z2 % P + Bd * (z3 % P)) (e2 : s2 * P = z3 - z3 % P + Bd * (f % P)) (e3 : s3 * P = f - f % P + Bd * (f % P)) (h0 : z0 = 0) (hm : z1 % P = 0) : (V s0 s1 s2 s3 * (P * Bd)) % MM = V z0 z1 z2 z3 % MM := by
  have hh : V s0 s1 s2 s3 * (P * Bd) = (s0 * P + Bd * (s1 * P + Bd * (s2 * P + Bd * (s3 * P)))) * Bd := by unfold V; grind
  rw [hh, e0, e1, e2, e3, hm]
  subst h0
  generalize f % P = g
  generalize z2 % P = g2
  generalize z3 % P = g3
  unfold V Bd MM; omega
theorem down2 {P z0 z1 z2 z3 f s0 s1 s2 s3 : Int} (e0 : s0 * P = z2 - z2 % P + Bd * (z3 % P)) (e1 : s1 * P = z3 - z3 % P + Bd * (f % P)) (e2 : s2 * P = f - f % P + Bd * (f % P)) (e3 : s3 * P = f - f % P + Bd * (f % P)) (h0 : z0 = 0) (h1 : z1 = 0) (hm : z2 % P = 0) : (V s0 s1 s2 s3 * (P * (Bd * Bd))) % MM = V z0 z1 z2 z3 % MM := by
  have hh : V s0 s1 s2 s3 * (P * (Bd * Bd)) = (s0 * P + Bd * (s1 * P + Bd * (s2 * P + Bd * (s3 * P)))) * Bd * Bd := by unfold V; grind
  rw [hh, e0, e1, e2, e3, hm]
  subst h0
  subst h1
  generalize f % P = g
  generalize z3 % P = g3
  unfold V Bd MM; omega
theorem down3 {P z0 z1 z2 z3 f s0 s1 s2 s3 : Int} (e0 : s0 * P = z3 - z3 % P + Bd * (f % P)) (e1 : s1 * P = f - f % P + Bd * (f % P)) (e2 : s2 * P = f - f % P + Bd * (f % P)) (e3 : s3 * P = f - f % P + Bd * (f % P)) (h0 : z0 = 0) (h1 : z1 = 0) (h2 : z2 = 0) (hm : z3 % P = 0) : (V s0 s1 s2 s3 * (P * (Bd * Bd * Bd))) % MM = V z0 z1 z2 z3 % MM := by
  have hh : V s0 s1 s2 s3 * (P * (Bd * Bd * Bd)) = (s0 * P + Bd * (s1 * P + Bd * (s2 * P + Bd * (s3 * P)))) * Bd * Bd * Bd := by unfold V; grind
  rw [hh, e0, e1, e2, e3, hm]
  subst h0
  subst h1
  subst h2
  generalize f % P = g
  unfold V Bd MM; omega
theorem upL_mod (a r : Int) (ha : U64 a) (h0 : 0 ≤ r) (h1 : r < 64) : upL a r % 2 ^ r.toNat = 0 := by
  obtain ⟨P, Q, m, c, _, eP, _, w0, _, _, _, _, _⟩ := up_ex a r ha h0 h1
  rw [upL, w0, eP, Int.natCast_mul]; exact Int.mul_emod_right _ _
/-- up by n and down again, whatever comes in from above: two words, and the second times 2^n is the first -/
theorem updown_ex (x n : Int) (a0 a1 a2 a3 : Int) (ha : IsW x a0 a1 a2 a3) (h0 : 0 ≤ n) (h1 : n < 256) : ∃ z0 z1 z2 z3 : Int, (∀ w : World, Calls Try.prog 86 #[.agg #[.int .u64 a0, .int .u64 a1, .int .u64 a2, .int .u64 a3], .int .u64 n] w fun e w' => e = .returned (.agg #[.int .u64 z0, .int .u64 z1, .int .u64 z2, .int .u64 z3]) ∧ Below w.heap.size w w') ∧ IsW (x * 2 ^ n.toNat) z0 z1 z2 z3 ∧
    ∀ f : Int, U64 f → ∃ s0 s1 s2 s3 : Int, (∀ w : World, Calls Try.prog 87 #[.agg #[.int .u64 z0, .int .u64 z1, .int .u64 z2, .int .u64 z3], .int .u64 n, .int .u64 f] w fun e w' => e = .returned (.agg #[.int .u64 s0, .int .u64 s1, .int .u64 s2, .int .u64 s3]) ∧ Below w.heap.size w w') ∧ ∃ y : Int, IsW y s0 s1 s2 s3 ∧ (y * 2 ^ n.toNat) % MM = (x * 2 ^ n.toNat) % MM := by
  have r0 : 0 ≤ n % 64 := by omega
  have r1 : n % 64 < 64 := by omega
  have hm := upL_mod a0 (n % 64) ha.u0 r0 r1
  rcases q4 n h0 h1 with hq | hq | hq | hq
  · have hz : IsW (x * 2 ^ n.toNat) (upL a0 (n % 64)) (upJ a1 a0 (n % 64)) (upJ a2 a1 (n % 64)) (upJ a3 a2 (n % 64)) := by rw [pow_0 n hq h0]; exact upW0 ha (n % 64) r0 r1
    refine ⟨_, _, _, _, fun w => shiftUp0 a0 a1 a2 a3 n (n % 64) w h0 h1 hq rfl r0 r1, hz, fun f hf => ?_⟩
    have D0 := dn_ex _ _ (n % 64) hz.u0 hz.u1 r0 r1
    have D1 := dn_ex _ _ (n % 64) hz.u1 hz.u2 r0 r1
    have D2 := dn_ex _ _ (n % 64) hz.u2 hz.u3 r0 r1
    have D3 := dn_ex _ _ (n % 64) hz.u3 hf r0 r1
    refine ⟨_, _, _, _, fun w => shiftDown0 _ _ _ _ n (n % 64) f w h0 h1 hq rfl r0 r1, _, isW_mk D0.1 D1.1 D2.1 D3.1, ?_⟩
    rw [← Int.emod_emod (x * 2 ^ n.toNat) MM, ← hz.2, pow_0 n hq h0]
    exact down0 D0.2 D1.2 D2.2 D3.2  hm
  · have hz : IsW (x * 2 ^ n.toNat) 0 (upL a0 (n % 64)) (upJ a1 a0 (n % 64)) (upJ a2 a1 (n % 64)) := by rw [pow_1 n hq h0]; exact upW1 ha (n % 64) r0 r1
    refine ⟨_, _, _, _, fun w => shiftUp1 a0 a1 a2 a3 n (n % 64) w h0 h1 hq rfl r0 r1, hz, fun f hf => ?_⟩
    have D0 := dn_ex _ _ (n % 64) hz.u1 hz.u2 r0 r1
    have D1 := dn_ex _ _ (n % 64) hz.u2 hz.u3 r0 r1
    have D2 := dn_ex _ _ (n % 64) hz.u3 hf r0 r1
    have D3 := dn_ex _ _ (n % 64) hf hf r0 r1
    refine ⟨_, _, _, _, fun w => shiftDown1 _ _ _ _ n (n % 64) f w h0 h1 hq rfl r0 r1, _, isW_mk D0.1 D1.1 D2.1 D3.1, ?_⟩
    rw [← Int.emod_emod (x * 2 ^ n.toNat) MM, ← hz.2, pow_1 n hq h0]
    exact down1 D0.2 D1.2 D2.2 D3.2 rfl hm
  · have hz : IsW (x * 2 ^ n.toNat) 0 0 (upL a0 (n % 64)) (upJ a1 a0 (n % 64)) := by rw [pow_2 n hq h0]; exact upW2 ha (n % 64) r0 r1
    refine ⟨_, _, _, _, fun w => shiftUp2 a0 a1 a2 a3 n (n % 64) w h0 h1 hq rfl r0 r1, hz, fun f hf => ?_⟩
    have D0 := dn_ex _ _ (n % 64) hz.u2 hz.u3 r0 r1
    have D1 := dn_ex _ _ (n % 64) hz.u3 hf r0 r1
    have D2 := dn_ex _ _ (n % 64) hf hf r0 r1
    have D3 := dn_ex _ _ (n % 64) hf hf r0 r1
    refine ⟨_, _, _, _, fun w => shiftDown2 _ _ _ _ n (n % 64) f w h0 h1 hq rfl r0 r1, _, isW_mk D0.1 D1.1 D2.1 D3.1, ?_⟩
    rw [← Int.emod_emod (x * 2 ^ n.toNat) MM, ← hz.2, pow_2 n hq h0]
    exact down2 D0.2 D1.2 D2.2 D3.2 rfl rfl hm
  · have hz : IsW (x * 2 ^ n.toNat) 0 0 0 (upL a0 (n % 64)) := by rw [pow_3 n hq h0]; exact upW3 ha (n % 64) r0 r1
    refine ⟨_, _, _, _, fun w => shiftUp3 a0 a1 a2 a3 n (n % 64) w h0 h1 hq rfl r0 r1, hz, fun f hf => ?_⟩
    have D0 := dn_ex _ _ (n % 64) hz.u3 hf r0 r1
    have D1 := dn_ex _ _ (n % 64) hf hf r0 r1
    have D2 := dn_ex _ _ (n % 64) hf hf r0 r1
    have D3 := dn_ex _ _ (n % 64) hf hf r0 r1
    refine ⟨_, _, _, _, fun w => shiftDown3 _ _ _ _ n (n % 64) f w h0 h1 hq rfl r0 r1, _, isW_mk D0.1 D1.1 D2.1 D3.1, ?_⟩
    rw [← Int.emod_emod (x * 2 ^ n.toNat) MM, ← hz.2, pow_3 n hq h0]
    exact down3 D0.2 D1.2 D2.2 D3.2 rfl rfl rfl hm
end Go.Proofs.Ytpadpmkfhljiiaa
