/- WordShifts: the walk: for every two words the law returns true and turns nothing that was there. -/
import Derived.Test.YtpadpmkfhljiiaaSi
import Derived.Test.YtpadpmkfhljiiaaWsh00
import Derived.Test.YtpadpmkfhljiiaaWsh01
import Derived.Test.YtpadpmkfhljiiaaWsh10
import Derived.Test.YtpadpmkfhljiiaaWsh11
namespace Go.Proofs.Ytpadpmkfhljiiaa
open Go.RowKit
theorem sign_is (x : Int) (a0 a1 a2 a3 : Int) (ha : IsW x a0 a1 a2 a3) (s : Bool) (h : decide (MM / 2 ≤ x % MM) = s) : ∀ w : World, Calls Try.prog 41 #[.agg #[.int .u64 a0, .int .u64 a1, .int .u64 a2, .int .u64 a3]] w fun e w' => e = .returned (.bool s) ∧ Below w.heap.size w w' := by
  have hm := MM_pos
  have h0 : 0 ≤ x % MM := Int.emod_nonneg _ (by omega)
  have h1 : x % MM < MM := Int.emod_lt_of_pos _ hm
  have L1 : ∀ w : World, Calls Try.prog 20 #[.agg #[.int .u64 18446744073709551615, .int .u64 18446744073709551615, .int .u64 18446744073709551615, .int .u64 18446744073709551615], .agg #[.int .u64 a0, .int .u64 a1, .int .u64 a2, .int .u64 a3]] w fun e w' => e = .returned (.bool false) ∧ Below w.heap.size w w' := fun w => lt_is _ _ _ _ a0 a1 a2 a3 w isW_most ha false (by simp; unfold MM at *; omega)
  have ht : (MM / 2) % MM = MM / 2 := by unfold MM; omega
  rcases s with _ | _
  · exact sign_f a0 a1 a2 a3 L1 (fun w => lt_is a0 a1 a2 a3 _ _ _ _ w ha isW_top true (by rw [ht]; simp at h ⊢; omega))
  · exact sign_c a0 a1 a2 a3 L1 (fun w => lt_is a0 a1 a2 a3 _ _ _ _ w ha isW_top false (by rw [ht]; simp at h ⊢; omega))
theorem neg_floor (a P : Int) (hP : 0 < P) : (-1 - a) / P = -1 - a / P := by
  have h := Int.mul_ediv_add_emod a P
  have h0 := Int.emod_nonneg a (show P ≠ 0 by omega)
  have h1 := Int.emod_lt_of_pos a hP
  refine floor_of hP (r := P - 1 - a % P) ?_ (by omega) (by omega)
  rw [Int.sub_mul, Int.mul_comm (a / P) P]; omega
theorem pow_lt_MM (N : Nat) (h : N < 256) : (2 : Int) ^ N < MM := by
  rw [two_s]
  have h1 : 2 ^ N ≤ 2 ^ 255 := Nat.pow_le_pow_right (by decide) (by omega)
  have h2 : (2 : Nat) ^ 255 < 115792089237316195423570985008687907853269984665640564039457584007913129639936 := by decide
  unfold MM; omega
theorem wordShifts_walk (n x : Int) (n0 n1 n2 n3 x0 x1 x2 x3 : Int) (w : World) (hn : IsW n n0 n1 n2 n3) (hx : IsW x x0 x1 x2 x3) :
    Calls Try.prog 11 #[.agg #[.int .u64 n0, .int .u64 n1, .int .u64 n2, .int .u64 n3], .agg #[.int .u64 x0, .int .u64 x1, .int .u64 x2, .int .u64 x3]] w fun e w' => e = .returned (.bool true) ∧ Below w.heap.size w w' := by
  have hm := MM_pos
  obtain ⟨N, hN⟩ : ∃ N : Nat, n % MM = (N : Int) := Int.eq_ofNat_of_zero_le (Int.emod_nonneg _ (by omega))
  have hN1 : (N : Int) < MM := by rw [← hN]; exact Int.emod_lt_of_pos _ hm
  have hNN : (N : Int) % MM = N := Int.emod_eq_of_lt (by omega) hN1
  have hnN : IsW (N : Int) n0 n1 n2 n3 := hn.cong (by rw [hN, hNN])
  have hVN : V n0 n1 n2 n3 = (N : Int) := hn.2.trans hN
  obtain ⟨X, hX⟩ : ∃ X, x % MM = X := ⟨_, rfl⟩
  have X0 : 0 ≤ X := by rw [← hX]; exact Int.emod_nonneg _ (by omega)
  have X1 : X < MM := by rw [← hX]; exact Int.emod_lt_of_pos _ hm
  have hXX : X % MM = X := Int.emod_eq_of_lt X0 X1
  have hxX : IsW X x0 x1 x2 x3 := hx.cong (by rw [hX, hXX])
  clear hn hx hN hX
  obtain ⟨p0, p1, p2, p3, ip⟩ := isW_ex ((2 : Int) ^ N)
  have EX : ∀ w : World, Calls Try.prog 17 #[.agg #[.int .u64 2, .int .u64 0, .int .u64 0, .int .u64 0], .agg #[.int .u64 n0, .int .u64 n1, .int .u64 n2, .int .u64 n3]] w fun e w' => e = .returned (.agg #[.int .u64 p0, .int .u64 p1, .int .u64 p2, .int .u64 p3]) ∧ Below w.heap.size w w' := fun w => exp_is 2 (N : Int) N 2 0 0 0 n0 n1 n2 n3 p0 p1 p2 p3 w isW_2 hnN hVN ip
  obtain ⟨m0, m1, m2, m3, im⟩ := isW_ex (X * 2 ^ N)
  have MU : ∀ w : World, Calls Try.prog 35 #[.agg #[.int .u64 x0, .int .u64 x1, .int .u64 x2, .int .u64 x3], .agg #[.int .u64 p0, .int .u64 p1, .int .u64 p2, .int .u64 p3]] w fun e w' => e = .returned (.agg #[.int .u64 m0, .int .u64 m1, .int .u64 m2, .int .u64 m3]) ∧ Below w.heap.size w w' := fun w => mul_is X (2 ^ N) x0 x1 x2 x3 p0 p1 p2 p3 m0 m1 m2 m3 w hxX ip im
  obtain ⟨s, hs⟩ : ∃ s : Bool, decide (MM / 2 ≤ X % MM) = s := ⟨_, rfl⟩
  have SG := sign_is X x0 x1 x2 x3 hxX s hs
  have SB : ∀ w : World, Calls Try.prog 88 #[.agg #[.int .u64 x0, .int .u64 x1, .int .u64 x2, .int .u64 x3]] w fun e w' => e = .returned (.int .u64 (if s then 18446744073709551615 else 0)) ∧ Below w.heap.size w w' := fun w => by
    have h := signBits_any X x0 x1 x2 x3 w hxX
    have e : (if MM / 2 ≤ X % MM then (18446744073709551615 : Int) else 0) = if s then 18446744073709551615 else 0 := by rw [← hs]; simp
    rw [e] at h; exact h
  obtain ⟨c0, c1, c2, c3, ic⟩ := isW_ex (-1 - X)
  have NX : ∀ w : World, Calls Try.prog 32 #[.agg #[.int .u64 x0, .int .u64 x1, .int .u64 x2, .int .u64 x3]] w fun e w' => e = .returned (.agg #[.int .u64 c0, .int .u64 c1, .int .u64 c2, .int .u64 c3]) ∧ Below w.heap.size w w' := fun w => not_is X x0 x1 x2 x3 c0 c1 c2 c3 w hxX ic
  have hC : (-1 - X) % MM = MM - 1 - X := by rw [show -1 - X = (MM - 1 - X) + (-1) * MM by omega, Int.add_mul_emod_self_right, Int.emod_eq_of_lt (by omega) (by omega)]
  have h256 : (256 : Int) % MM = 256 := by unfold MM; omega
  have e255 : (2 : Int) ^ (255 : Int).toNat = MM / 2 := by unfold MM; decide
  have i256 := isW_lit 256 (by omega) (by omega)
  by_cases hf : N < 256
  · obtain ⟨rfl, rfl, rfl, rfl⟩ := small_limbs _ _ _ _ hnN (by omega) (by omega)
    have hP := two_pos N
    have hP1 := pow_lt_MM N hf
    have tN : ((N : Int)).toNat = N := by omega
    have BL : ∀ w : World, Calls Try.prog 85 #[.agg #[.int .u64 (N : Int), .int .u64 0, .int .u64 0, .int .u64 0], .int .u64 256] w fun e w' => e = .returned (.tuple #[.int .u64 (N : Int), .bool true]) ∧ Below w.heap.size w w' := fun w => below_lt (N : Int) 256 _ _ _ _ w hnN i256 (by rw [hNN, h256]; omega)
    have LN : ∀ w : World, Calls Try.prog 20 #[.agg #[.int .u64 (N : Int), .int .u64 0, .int .u64 0, .int .u64 0], .agg #[.int .u64 256, .int .u64 0, .int .u64 0, .int .u64 0]] w fun e w' => e = .returned (.bool true) ∧ Below w.heap.size w w' := fun w => lt_is _ _ _ _ _ _ _ _ w hnN i256 true (by rw [hNN, h256]; simp; omega)
    obtain ⟨z0, z1, z2, z3, SU, iz⟩ := shiftUp_ex X (N : Int) x0 x1 x2 x3 hxX (by omega) (by omega)
    rw [tN] at iz
    obtain ⟨rfl, rfl, rfl, rfl⟩ := im.eq iz rfl
    obtain ⟨d0, d1, d2, d3, SD, id⟩ := shiftDown_ex X (N : Int) false x0 x1 x2 x3 hxX (by omega) (by omega)
    rw [tN, hXX] at id
    have SL : ∀ w : World, Calls Try.prog 47 #[.agg #[.int .u64 (N : Int), .int .u64 0, .int .u64 0, .int .u64 0], .agg #[.int .u64 x0, .int .u64 x1, .int .u64 x2, .int .u64 x3]] w fun e w' => e = .returned (.agg #[.int .u64 m0, .int .u64 m1, .int .u64 m2, .int .u64 m3]) ∧ Below w.heap.size w w' := fun w => shl_lt (N : Int) x0 x1 x2 x3 m0 m1 m2 m3 w (by omega) (by omega) SU
    have SR := shr_lt (N : Int) 0 0 0 x0 x1 x2 x3 d0 d1 d2 d3 BL SD
    have DI : ∀ w : World, Calls Try.prog 38 #[.agg #[.int .u64 x0, .int .u64 x1, .int .u64 x2, .int .u64 x3], .agg #[.int .u64 p0, .int .u64 p1, .int .u64 p2, .int .u64 p3]] w fun e w' => e = .returned (.agg #[.int .u64 d0, .int .u64 d1, .int .u64 d2, .int .u64 d3]) ∧ Below w.heap.size w w' := fun w => div_is X (2 ^ N) x0 x1 x2 x3 p0 p1 p2 p3 d0 d1 d2 d3 w hxX ip (by rw [hXX, Int.emod_eq_of_lt (by omega) hP1, dv]; simpa using id)
    rcases s with _ | _
    · exact wsh_00 (N : Int) 0 0 0 x0 x1 x2 x3 p0 p1 p2 p3 m0 m1 m2 m3 d0 d1 d2 d3 EX LN MU DI SL SR SG (fun w => sar_lt (N : Int) 0 x0 x1 x2 x3 d0 d1 d2 d3 w (by omega) (by omega) SB SD) w
    · obtain ⟨t0, t1, t2, t3, ST, it⟩ := shiftDown_ex X (N : Int) true x0 x1 x2 x3 hxX (by omega) (by omega)
      obtain ⟨e0, e1, e2, e3, SE, ie⟩ := shiftDown_ex (-1 - X) (N : Int) false c0 c1 c2 c3 ic (by omega) (by omega)
      rw [tN] at it ie
      simp only [if_true, hXX] at it
      simp only [hC] at ie
      refine wsh_01 (N : Int) 0 0 0 x0 x1 x2 x3 p0 p1 p2 p3 m0 m1 m2 m3 d0 d1 d2 d3 t0 t1 t2 t3 c0 c1 c2 c3 e0 e1 e2 e3 EX LN MU DI SL SR SG (fun w => sar_lt (N : Int) 18446744073709551615 x0 x1 x2 x3 t0 t1 t2 t3 w (by omega) (by omega) SB ST) NX (shr_lt (N : Int) 0 0 0 c0 c1 c2 c3 e0 e1 e2 e3 BL SE) (fun w => not_is _ e0 e1 e2 e3 t0 t1 t2 t3 w ie ?_) w
      refine it.cong ?_
      rw [show X - MM = -1 - (MM - 1 - X) by omega, neg_floor _ _ hP]
      simp
  · have BL : ∀ w : World, Calls Try.prog 85 #[.agg #[.int .u64 n0, .int .u64 n1, .int .u64 n2, .int .u64 n3], .int .u64 256] w fun e w' => e = .returned (.tuple #[.int .u64 0, .bool false]) ∧ Below w.heap.size w w' := fun w => below_ge (N : Int) 256 n0 n1 n2 n3 w hnN i256 (by rw [hNN, h256]; omega)
    have LN : ∀ w : World, Calls Try.prog 20 #[.agg #[.int .u64 n0, .int .u64 n1, .int .u64 n2, .int .u64 n3], .agg #[.int .u64 256, .int .u64 0, .int .u64 0, .int .u64 0]] w fun e w' => e = .returned (.bool false) ∧ Below w.heap.size w w' := fun w => lt_is n0 n1 n2 n3 _ _ _ _ w hnN i256 false (by rw [hNN, h256]; simp; omega)
    have SL := shl_ge n0 n1 n2 n3 x0 x1 x2 x3 BL
    have SR := shr_ge n0 n1 n2 n3 x0 x1 x2 x3 BL
    obtain ⟨t0, t1, t2, t3, ST, it⟩ := shiftDown_ex X 255 s x0 x1 x2 x3 hxX (by omega) (by omega)
    rw [e255, hXX] at it
    have hh : 0 < MM / 2 := by unfold MM; omega
    rcases s with _ | _
    · have hs' : X < MM / 2 := by rw [hXX] at hs; simpa using hs
      obtain ⟨rfl, rfl, rfl, rfl⟩ := it.eq isW_0 (by congr 1; simp; exact Int.ediv_eq_zero_of_lt X0 hs')
      exact wsh_10 n0 n1 n2 n3 x0 x1 x2 x3 p0 p1 p2 p3 m0 m1 m2 m3 EX LN MU SL SR SG (sar_ge n0 n1 n2 n3 x0 x1 x2 x3 0 0 0 0 0 BL SB ST) w
    · have hs' : MM / 2 ≤ X := by rw [hXX] at hs; simpa using hs
      have e1 : (X - MM) / (MM / 2) = -1 := floor_of hh (r := X - MM / 2) (by unfold MM; omega) (by omega) (by unfold MM at *; omega)
      simp only [if_true, e1] at it
      exact wsh_11 n0 n1 n2 n3 x0 x1 x2 x3 p0 p1 p2 p3 m0 m1 m2 m3 t0 t1 t2 t3 c0 c1 c2 c3 0 0 0 0 EX LN MU SL SR SG (sar_ge n0 n1 n2 n3 x0 x1 x2 x3 t0 t1 t2 t3 18446744073709551615 BL SB ST) NX (shr_ge n0 n1 n2 n3 c0 c1 c2 c3 BL) (fun w => not_is 0 0 0 0 0 t0 t1 t2 t3 w isW_0 it) w
end Go.Proofs.Ytpadpmkfhljiiaa
