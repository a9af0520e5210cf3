/- Shifts down as quotients, and Not. -/
import Derived.Test.YtpadpmkfhljiiaaWx
import Derived.Test.YtpadpmkfhljiiaaEn
import Derived.Test.YtpadpmkfhljiiaaBx
namespace Go.Proofs.Ytpadpmkfhljiiaa
open Go.RowKit
/-- two floors, one behind the other -/
theorem floor_of {y q P r : Int} (_hP : 0 < P) (h : q * P + r = y) (h0 : 0 ≤ r) (h1 : r < P) : y / P = q := by
  rw [← h, Int.add_comm, Int.add_mul_ediv_right _ _ (by omega), Int.ediv_eq_zero_of_lt h0 h1, Int.zero_add]
theorem fill_mod (r : Int) (h0 : 0 ≤ r) (h1 : r < 64) : (18446744073709551615 : Int) % 2 ^ r.toNat = 2 ^ r.toNat - 1 := by
  have hP : (0 : Int) < 2 ^ r.toNat := two_pos _
  have e : (18446744073709551615 : Int) = (2 ^ r.toNat - 1) + 2 ^ r.toNat * (2 ^ (64 - r).toNat - 1) := by
    have h := pq64 r h0 h1
    have h2 : (2 : Int) ^ r.toNat * 2 ^ (64 - r).toNat = 18446744073709551616 := by rw [two_s, two_s, ← Int.natCast_mul, h]; rfl
    rw [Int.mul_sub, h2]; omega
  rw [e, Int.add_mul_emod_self_left, Int.emod_eq_of_lt (by omega) (by omega)]
/-- the end of all four cases: B says whether ones come in from above -/
theorem down_end {V' Vs z P f Z : Int} (B : Bool) (hP : 0 < P) (hf : f % P = if B then P - 1 else 0) (h : Vs * P + z % P = V' + MM * (f % P)) (hZ : V' = Z + (if B then MM else 0)) : Z / P = Vs - (if B then MM else 0) := by
  have h0 := Int.emod_nonneg z (show P ≠ 0 by omega)
  have h1 := Int.emod_lt_of_pos z hP
  refine floor_of hP (r := z % P) ?_ h0 h1
  rw [hf, hZ] at h
  rcases B with _ | _
  · simp at h ⊢; omega
  · simp only [if_true] at h ⊢
    rw [Int.sub_mul]
    rw [Int.mul_sub, Int.mul_one] at h
    omega
theorem div_parts (y B P : Int) (hB : 0 ≤ B) : y / B / P = y / (P * B) := by rw [Int.ediv_ediv_of_nonneg hB, Int.mul_comm]
theorem fill_eq (B : Bool) : (if B then (18446744073709551615 : Int) else 0) = if B then 18446744073709551615 else 0 := rfl
theorem shiftDown_ex (x n : Int) (B : Bool) (a0 a1 a2 a3 : Int) (ha : IsW x a0 a1 a2 a3) (h0 : 0 ≤ n) (h1 : n < 256) : ∃ s0 s1 s2 s3 : Int, (∀ w : World, Calls Try.prog 87 #[.agg #[.int .u64 a0, .int .u64 a1, .int .u64 a2, .int .u64 a3], .int .u64 n, .int .u64 (if B then 18446744073709551615 else 0)] w fun e w' => e = .returned (.agg #[.int .u64 s0, .int .u64 s1, .int .u64 s2, .int .u64 s3]) ∧ Below w.heap.size w w') ∧ IsW ((x % MM - (if B then MM else 0)) / 2 ^ n.toNat) s0 s1 s2 s3 := by
  have r0 : 0 ≤ n % 64 := by omega
  have r1 : n % 64 < 64 := by omega
  obtain ⟨f, hf⟩ : ∃ f : Int, (if B then (18446744073709551615 : Int) else 0) = f := ⟨_, rfl⟩
  have fu : U64 f := by rw [← hf]; split <;> (unfold U64 Bd; omega)
  have fm : f % 2 ^ (n % 64).toNat = if B then 2 ^ (n % 64).toNat - 1 else 0 := by
    rw [← hf]; rcases B with _ | _
    · simp
    · simp only [if_true]; exact fill_mod _ r0 r1
  have hP : (0 : Int) < 2 ^ (n % 64).toNat := two_pos _
  have fin : ∀ {s0 s1 s2 s3 Z : Int}, U64 s0 → U64 s1 → U64 s2 → U64 s3 → Z = V s0 s1 s2 s3 - (if B then MM else 0) → IsW Z s0 s1 s2 s3 := by
    intro s0 s1 s2 s3 Z u0 u1 u2 u3 e
    refine (isW_mk u0 u1 u2 u3).cong ?_
    rw [e]; rcases B with _ | _
    · simp
    · simp only [if_true]; rw [Int.sub_emod_right]
  rw [hf, ← ha.2]
  rcases q4 n h0 h1 with hq | hq | hq | hq
  · have D0 := dn_ex a0 a1 (n % 64) ha.u0 ha.u1 r0 r1
    have D1 := dn_ex a1 a2 (n % 64) ha.u1 ha.u2 r0 r1
    have D2 := dn_ex a2 a3 (n % 64) ha.u2 ha.u3 r0 r1
    have D3 := dn_ex a3 f (n % 64) ha.u3 fu r0 r1
    refine ⟨_, _, _, _, fun w => shiftDown0 a0 a1 a2 a3 n (n % 64) f w h0 h1 hq rfl r0 r1, fin D0.1 D1.1 D2.1 D3.1 ?_⟩
    rw [pow_0 n hq h0]
    exact down_end B hP fm (down_num D0.2 D1.2 D2.2 D3.2) (by omega)
  · have D0 := dn_ex a1 a2 (n % 64) ha.u1 ha.u2 r0 r1
    have D1 := dn_ex a2 a3 (n % 64) ha.u2 ha.u3 r0 r1
    have D2 := dn_ex a3 f (n % 64) ha.u3 fu r0 r1
    have D3 := dn_ex f f (n % 64) fu fu r0 r1
    refine ⟨_, _, _, _, fun w => shiftDown1 a0 a1 a2 a3 n (n % 64) f w h0 h1 hq rfl r0 r1, fin D0.1 D1.1 D2.1 D3.1 ?_⟩
    rw [pow_1 n hq h0, ← div_parts _ _ _ (by unfold Bd; omega)]
    refine down_end B hP fm (down_num D0.2 D1.2 D2.2 D3.2) ?_
    obtain ⟨⟨u0, u1, u2, u3⟩, _⟩ := ha
    rw [← hf]; rcases B with _ | _ <;> (simp; unfold V U64 Bd MM at *; omega)
  · have D0 := dn_ex a2 a3 (n % 64) ha.u2 ha.u3 r0 r1
    have D1 := dn_ex a3 f (n % 64) ha.u3 fu r0 r1
    have D2 := dn_ex f f (n % 64) fu fu r0 r1
    refine ⟨_, _, _, _, fun w => shiftDown2 a0 a1 a2 a3 n (n % 64) f w h0 h1 hq rfl r0 r1, fin D0.1 D1.1 D2.1 D2.1 ?_⟩
    rw [pow_2 n hq h0, ← div_parts _ _ _ (by unfold Bd; omega)]
    refine down_end B hP fm (down_num D0.2 D1.2 D2.2 D2.2) ?_
    obtain ⟨⟨u0, u1, u2, u3⟩, _⟩ := ha
    rw [← hf]; rcases B with _ | _ <;> (simp; unfold V U64 Bd MM at *; omega)
  · have D0 := dn_ex a3 f (n % 64) ha.u3 fu r0 r1
    have D1 := dn_ex f f (n % 64) fu fu r0 r1
    refine ⟨_, _, _, _, fun w => shiftDown3 a0 a1 a2 a3 n (n % 64) f w h0 h1 hq rfl r0 r1, fin D0.1 D1.1 D1.1 D1.1 ?_⟩
    rw [pow_3 n hq h0, ← div_parts _ _ _ (by unfold Bd; omega)]
    refine down_end B hP fm (down_num D0.2 D1.2 D1.2 D1.2) ?_
    obtain ⟨⟨u0, u1, u2, u3⟩, _⟩ := ha
    rw [← hf]; rcases B with _ | _ <;> (simp; unfold V U64 Bd MM at *; omega)
theorem not_u64 {a : Int} (h : U64 a) : bits .xor .u64 IntKind.u64.max a = 18446744073709551615 - a := by
  have h2 := h.2
  unfold Bd at h2
  have e : IntKind.u64.max = 18446744073709551615 := by kernel_rfl
  rw [e, u64_xor 18446744073709551615 a (by omega) (by omega) h.1 h2]
  have hn : ∀ k : Nat, k < 2 ^ 64 → 18446744073709551615 ^^^ k = 18446744073709551615 - k := fun k hk => by
    have h3 : (~~~(BitVec.ofNat 64 k)).toNat = 18446744073709551615 ^^^ k := by rw [← BitVec.allOnes_xor, BitVec.toNat_xor]; simp [Nat.mod_eq_of_lt hk]
    rw [← h3, BitVec.toNat_not, BitVec.toNat_ofNat, Nat.mod_eq_of_lt hk]
  have := hn a.toNat (by have := h.1; omega)
  rw [show (18446744073709551615 : Int).toNat = 18446744073709551615 from rfl, this]
  have := h.1
  omega
set_option maxHeartbeats 1000000 in
set_option maxRecDepth 100000 in
theorem not_is (x : Int) (a0 a1 a2 a3 p0 p1 p2 p3 : Int) (w : World) (ha : IsW x a0 a1 a2 a3) (hp : IsW (-1 - x) p0 p1 p2 p3) : Calls Try.prog 32 #[.agg #[.int .u64 a0, .int .u64 a1, .int .u64 a2, .int .u64 a3]] w fun e w' => e = .returned (.agg #[.int .u64 p0, .int .u64 p1, .int .u64 p2, .int .u64 p3]) ∧ Below w.heap.size w w' := by
  have hq : IsW (-1 - x) (18446744073709551615 - a0) (18446744073709551615 - a1) (18446744073709551615 - a2) (18446744073709551615 - a3) := by
    obtain ⟨⟨u0, u1, u2, u3⟩, e⟩ := ha
    refine ⟨⟨?_, ?_, ?_, ?_⟩, ?_⟩
    all_goals unfold U64 Bd at *
    · omega
    · omega
    · omega
    · omega
    · unfold V Bd MM at *; omega
  obtain ⟨e0, e1, e2, e3⟩ := hp.eq hq rfl
  have j0 := not_u64 ha.u0
  have j1 := not_u64 ha.u1
  have j2 := not_u64 ha.u2
  have j3 := not_u64 ha.u3
  rw [← e0] at j0
  rw [← e1] at j1
  rw [← e2] at j2
  rw [← e3] at j3
  clear ha hp hq e0 e1 e2 e3
  go_enter Try.func32, Try.ntmps32
  go_wp2
  refine wp_loop_rounds 5 ?_
  rw [rounds_succ]
  go_wp2
  rw [rounds_succ]
  go_wp2
  rw [rounds_succ]
  go_wp2
  rw [rounds_succ]
  go_wp2
  rw [rounds_succ]
  go_wp2
  exact bodyPost_ret (v := .agg #[.int .u64 p0, .int .u64 p1, .int .u64 p2, .int .u64 p3]) (by simp [results, Try.results32, go_sem]) rfl ⟨rfl, by repeat' (first | with_reducible exact Below.refl _ _ | with_reducible exact Below.refl _ _ | with_reducible refine Below.drew ?_ | with_reducible refine bdrewN ?_ _ | with_reducible refine Below.alloc ?_ ?_ _ | with_reducible refine Below.setCell ?_ ?_ _ | omega | (simp; done) | (simp; omega))⟩
end Go.Proofs.Ytpadpmkfhljiiaa
