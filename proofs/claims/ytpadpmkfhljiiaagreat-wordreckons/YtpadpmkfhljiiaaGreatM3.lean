/- The comparisons, their answers named. -/
import Derived.Test.YtpadpmkfhljiiaaGreatM2
import Derived.Laws.MathBits
import Derived.Test.YtpadpmkfhljiiaaGreatM1
import Derived.Deep.DeepCutAuto
namespace Go.Proofs.YtpadpmkfhljiiaaGreat
open Go.RowKit
theorem cmp_is {x y : Int} (a0 a1 a2 a3 b0 b1 b2 b3 : Int) (w : World) (ha : IsW x a0 a1 a2 a3) (hb : IsW y b0 b1 b2 b3) (r : Int) (h : cmpv (x % MM) (y % MM) = r) :
    Calls Tryz.prog 134 #[.agg #[.int .u64 a0, .int .u64 a1, .int .u64 a2, .int .u64 a3], .agg #[.int .u64 b0, .int .u64 b1, .int .u64 b2, .int .u64 b3]] w fun e w' => e = .returned (.int .i64 r) ∧ Below w.heap.size w w' := by
  rw [← h]; exact cmp_any x y a0 a1 a2 a3 b0 b1 b2 b3 w ha hb
theorem lt_is {x y : Int} (a0 a1 a2 a3 b0 b1 b2 b3 : Int) (w : World) (ha : IsW x a0 a1 a2 a3) (hb : IsW y b0 b1 b2 b3) (r : Bool) (h : decide (x % MM < y % MM) = r) :
    Calls Tryz.prog 96 #[.agg #[.int .u64 a0, .int .u64 a1, .int .u64 a2, .int .u64 a3], .agg #[.int .u64 b0, .int .u64 b1, .int .u64 b2, .int .u64 b3]] w fun e w' => e = .returned (.bool r) ∧ Below w.heap.size w w' := by
  rw [← h]; exact lt_any x y a0 a1 a2 a3 b0 b1 b2 b3 w ha hb
theorem gt_is {x y : Int} (a0 a1 a2 a3 b0 b1 b2 b3 : Int) (w : World) (ha : IsW x a0 a1 a2 a3) (hb : IsW y b0 b1 b2 b3) (r : Bool) (h : decide (y % MM < x % MM) = r) :
    Calls Tryz.prog 99 #[.agg #[.int .u64 a0, .int .u64 a1, .int .u64 a2, .int .u64 a3], .agg #[.int .u64 b0, .int .u64 b1, .int .u64 b2, .int .u64 b3]] w fun e w' => e = .returned (.bool r) ∧ Below w.heap.size w w' := by
  rw [← h]; exact gt_any x y a0 a1 a2 a3 b0 b1 b2 b3 w ha hb
theorem eq_is {x y : Int} (a0 a1 a2 a3 b0 b1 b2 b3 : Int) (w : World) (ha : IsW x a0 a1 a2 a3) (hb : IsW y b0 b1 b2 b3) (r : Bool) (h : decide (x % MM = y % MM) = r) :
    Calls Tryz.prog 153 #[.agg #[.int .u64 a0, .int .u64 a1, .int .u64 a2, .int .u64 a3], .agg #[.int .u64 b0, .int .u64 b1, .int .u64 b2, .int .u64 b3]] w fun e w' => e = .returned (.bool r) ∧ Below w.heap.size w w' := by
  rw [← h]; exact eq_any x y a0 a1 a2 a3 b0 b1 b2 b3 w ha hb
theorem isZero_is {x : Int} (a0 a1 a2 a3 : Int) (w : World) (ha : IsW x a0 a1 a2 a3) (r : Bool) (h : decide (x % MM = 0) = r) :
    Calls Tryz.prog 155 #[.agg #[.int .u64 a0, .int .u64 a1, .int .u64 a2, .int .u64 a3]] w fun e w' => e = .returned (.bool r) ∧ Below w.heap.size w w' := by
  rw [← h]; exact isZero_any x a0 a1 a2 a3 w ha
theorem slt_is {x y : Int} (a0 a1 a2 a3 b0 b1 b2 b3 : Int) (w : World) (ha : IsW x a0 a1 a2 a3) (hb : IsW y b0 b1 b2 b3) (r : Bool) (h : decide ((x + MM / 2) % MM < (y + MM / 2) % MM) = r) :
    Calls Tryz.prog 26 #[.agg #[.int .u64 a0, .int .u64 a1, .int .u64 a2, .int .u64 a3], .agg #[.int .u64 b0, .int .u64 b1, .int .u64 b2, .int .u64 b3]] w fun e w' => e = .returned (.bool r) ∧ Below w.heap.size w w' := by
  rw [← h]; exact slt_any x y a0 a1 a2 a3 b0 b1 b2 b3 w ha hb
theorem sgt_is {x y : Int} (a0 a1 a2 a3 b0 b1 b2 b3 : Int) (w : World) (ha : IsW x a0 a1 a2 a3) (hb : IsW y b0 b1 b2 b3) (r : Bool) (h : decide ((y + MM / 2) % MM < (x + MM / 2) % MM) = r) :
    Calls Tryz.prog 28 #[.agg #[.int .u64 a0, .int .u64 a1, .int .u64 a2, .int .u64 a3], .agg #[.int .u64 b0, .int .u64 b1, .int .u64 b2, .int .u64 b3]] w fun e w' => e = .returned (.bool r) ∧ Below w.heap.size w w' := by
  rw [← h]; exact sgt_any x y a0 a1 a2 a3 b0 b1 b2 b3 w ha hb
end Go.Proofs.YtpadpmkfhljiiaaGreat
/- Products: bits.Mul64, mulAdd, product, Mul: for all numbers. -/
namespace Go.Proofs.YtpadpmkfhljiiaaGreat
open Go.RowKit

theorem low32 (t : Int) : bits .and .u64 (t % 18446744073709551616) 4294967295 = t % 18446744073709551616 % 4294967296 :=
  and_low32 _ (Int.emod_nonneg _ (by omega)) (Int.emod_lt_of_pos _ (by omega))
set_option maxHeartbeats 1000000 in
theorem mul64_int (x y : Int) (hx0 : 0 ≤ x) (hx : x < 18446744073709551616) (hy0 : 0 ≤ y) (hy : y < 18446744073709551616) (w : World) :
    Calls Tryz.prog 175 #[.int .u64 x, .int .u64 y] w fun e w' => e = .returned (.tuple #[.int .u64 (x * y / 18446744073709551616), .int .u64 (x * y % 18446744073709551616)]) ∧ w' = w := by
  have HK : Hid _ := mul64_arith x y hx0 hx hy0 hy
  go_enter Tryz.func175, Tryz.ntmps175
  go_wp2
  simp only [and_low32 x hx0 hx, and_low32 y hy0 hy, IntKind.wrap_u64, low32]
  rw [HK.out]
  go_ret2
  exact ⟨rfl, rfl⟩
theorem mul64_ex (x y : Int) (hx : U64 x) (hy : U64 y) : ∃ h l : Int, (∀ w : World, Calls Tryz.prog 175 #[.int .u64 x, .int .u64 y] w fun e w' => e = .returned (.tuple #[.int .u64 h, .int .u64 l]) ∧ w' = w) ∧ U64 h ∧ U64 l ∧ Hid (x * y = h * Bd + l) := by
  have hx' := hx.2
  have hy' := hy.2
  unfold Bd at hx' hy'
  have h0 : 0 ≤ x * y := Int.mul_nonneg hx.1 hy.1
  have h1 : x * y ≤ 18446744073709551615 * 18446744073709551615 := Int.mul_le_mul (by omega) (by omega) hy.1 (by omega)
  refine ⟨_, _, fun w => mul64_int x y hx.1 hx' hy.1 hy' w, ?_, ?_, ?_⟩
  all_goals simp only [U64, Hid, Bd]
  all_goals generalize x * y = p at *
  all_goals omega
set_option maxHeartbeats 1000000 in
theorem mulAdd_ex (a b c : Int) (ha : U64 a) (hb : U64 b) (hc : U64 c) : ∃ h l : Int, (∀ w : World, Calls Tryz.prog 125 #[.int .u64 a, .int .u64 b, .int .u64 c] w fun e w' => e = .returned (.tuple #[.int .u64 h, .int .u64 l]) ∧ w' = w) ∧ U64 h ∧ U64 l ∧ Hid (a * b + c = h * Bd + l) := by
  obtain ⟨h, l, hcall, hh, hl, hm⟩ := mul64_ex a b ha hb
  obtain ⟨s, d, r, es, us, l0, l1⟩ := add64_ex l c 0 hl hc (by omega) (by omega)
  have hbd : h + d < 18446744073709551616 := by
    have e1 := hm.out; have e2 := es.out
    have h1 : a * b ≤ 18446744073709551615 * 18446744073709551615 := by
      unfold U64 Bd at ha hb; exact Int.mul_le_mul (by omega) (by omega) hb.1 (by omega)
    unfold U64 Bd at *; omega
  have hbd0 : 0 ≤ h + d := by have := hh.1; omega
  refine ⟨h + d, s, fun w => ?_, ⟨hbd0, hbd⟩, us, ?_⟩
  · have H := hcall w
    clear hcall
    go_enter Tryz.func125, Tryz.ntmps125
    go_wp2_with fail
    refine H.mono ?_
    rintro e w1 ⟨rfl, rfl⟩
    clear H
    go_wp2
    go_ret2
    exact ⟨rfl, rfl⟩
  · have e1 := hm.out; have e2 := es.out
    unfold Hid Bd at *
    rw [e1]; omega

/-- one step of a product: t + a b + c, its low part and what is carried -/
theorem pst (a b c t : Int) (ha : U64 a) (hb : U64 b) (hc : U64 c) (ht : U64 t) : ∃ h l s d : Int, (∀ w : World, Calls Tryz.prog 125 #[.int .u64 a, .int .u64 b, .int .u64 c] w fun e w' => e = .returned (.tuple #[.int .u64 h, .int .u64 l]) ∧ w' = w) ∧
    (∀ W : World, (callFunc 122 #[.int .u64 t, .int .u64 l, .int .u64 0]).run Tryz.prog W = .ok (.value (.tuple #[.int .u64 s, .int .u64 d])) W) ∧ 0 ≤ h + d ∧ h + d < 18446744073709551616 ∧ U64 s ∧ U64 (h + d) ∧ Hid (t + a * b + c = (h + d) * Bd + s) := by
  obtain ⟨h, l, hcall, hh, hl, hm⟩ := mulAdd_ex a b c ha hb hc
  obtain ⟨s, d, r, es, us, l0, l1⟩ := add64_ex t l 0 ht hl (by omega) (by omega)
  have hbd : h + d < 18446744073709551616 := by
    have e1 := hm.out; have e2 := es.out
    have h1 : a * b ≤ 18446744073709551615 * 18446744073709551615 := by
      unfold U64 Bd at ha hb; exact Int.mul_le_mul (by omega) (by omega) hb.1 (by omega)
    unfold U64 Bd at *; omega
  have hbd0 : 0 ≤ h + d := by have := hh.1; omega
  refine ⟨h, l, s, d, hcall, r, hbd0, hbd, us, ⟨hbd0, hbd⟩, ?_⟩
  have e1 := hm.out; have e2 := es.out
  unfold Hid Bd at *
  have : (h + d) * 18446744073709551616 = h * 18446744073709551616 + d * 18446744073709551616 := Int.add_mul _ _ _
  omega
end Go.Proofs.YtpadpmkfhljiiaaGreat
/- The plain product of two words, its eight parts; and Mul. -/
namespace Go.Proofs.YtpadpmkfhljiiaaGreat
open Go.RowKit

theorem prow {a b0 b1 b2 b3 t0 t1 t2 t3 s0 s1 s2 s3 c1 c2 c3 c4 : Int} (e0 : t0 + a * b0 + 0 = c1 * Bd + s0) (e1 : t1 + a * b1 + c1 = c2 * Bd + s1) (e2 : t2 + a * b2 + c2 = c3 * Bd + s2) (e3 : t3 + a * b3 + c3 = c4 * Bd + s3) :
    V t0 t1 t2 t3 + a * V b0 b1 b2 b3 = V s0 s1 s2 s3 + MM * c4 := by
  have h : a * V b0 b1 b2 b3 = a * b0 + Bd * (a * b1) + Bd * (Bd * (a * b2)) + Bd * (Bd * (Bd * (a * b3))) := by unfold V; grind
  rw [h]
  generalize a * b0 = p0 at *; generalize a * b1 = p1 at *; generalize a * b2 = p2 at *; generalize a * b3 = p3 at *
  unfold V Bd MM at *; omega
/-- a number of eight parts -/
def V8 (p0 p1 p2 p3 p4 p5 p6 p7 : Int) : Int := V p0 p1 p2 p3 + MM * V p4 p5 p6 p7
theorem prod4 {a0 a1 a2 a3 v r0 r1 r2 r3 r4 r5 r6 r7 x1 x2 x3 x4 y2 y3 y4 y5 z3 z4 z5 z6 : Int}
    (h0 : V 0 0 0 0 + a0 * v = V r0 x1 x2 x3 + MM * x4) (h1 : V x1 x2 x3 x4 + a1 * v = V r1 y2 y3 y4 + MM * y5) (h2 : V y2 y3 y4 y5 + a2 * v = V r2 z3 z4 z5 + MM * z6) (h3 : V z3 z4 z5 z6 + a3 * v = V r3 r4 r5 r6 + MM * r7) :
    V a0 a1 a2 a3 * v = V8 r0 r1 r2 r3 r4 r5 r6 r7 := by
  have h : V a0 a1 a2 a3 * v = a0 * v + Bd * (a1 * v) + Bd * (Bd * (a2 * v)) + Bd * (Bd * (Bd * (a3 * v))) := by unfold V; grind
  rw [h]
  generalize a0 * v = p0 at *; generalize a1 * v = p1 at *; generalize a2 * v = p2 at *; generalize a3 * v = p3 at *
  unfold V8 V Bd MM at *; omega

set_option maxHeartbeats 4000000 in
set_option maxRecDepth 100000 in
theorem product_any (a0 a1 a2 a3 b0 b1 b2 b3 : Int) (w : World) (ha0 : U64 a0) (ha1 : U64 a1) (ha2 : U64 a2) (ha3 : U64 a3) (hb0 : U64 b0) (hb1 : U64 b1) (hb2 : U64 b2) (hb3 : U64 b3) :
    Calls Tryz.prog 84 #[.agg #[.int .u64 a0, .int .u64 a1, .int .u64 a2, .int .u64 a3], .agg #[.int .u64 b0, .int .u64 b1, .int .u64 b2, .int .u64 b3]] w fun e w' => ∃ p0 p1 p2 p3 p4 p5 p6 p7 : Int, e = .returned (.agg #[.int .u64 p0, .int .u64 p1, .int .u64 p2, .int .u64 p3, .int .u64 p4, .int .u64 p5, .int .u64 p6, .int .u64 p7]) ∧
      (U64 p0 ∧ U64 p1 ∧ U64 p2 ∧ U64 p3 ∧ U64 p4 ∧ U64 p5 ∧ U64 p6 ∧ U64 p7) ∧ V a0 a1 a2 a3 * V b0 b1 b2 b3 = V8 p0 p1 p2 p3 p4 p5 p6 p7 ∧ Below w.heap.size w w' := by
  obtain ⟨h00, l00, s00, d00, m00, r00, x00, y00, u_s00, c00, e00⟩ := pst a0 b0 0 0 ha0 hb0 (u64_lit 0 (by omega) (by omega)) (u64_lit 0 (by omega) (by omega))
  obtain ⟨h01, l01, s01, d01, m01, r01, x01, y01, u_s01, c01, e01⟩ := pst a0 b1 (h00 + d00) 0 ha0 hb1 (c00) (u64_lit 0 (by omega) (by omega))
  obtain ⟨h02, l02, s02, d02, m02, r02, x02, y02, u_s02, c02, e02⟩ := pst a0 b2 (h01 + d01) 0 ha0 hb2 (c01) (u64_lit 0 (by omega) (by omega))
  obtain ⟨h03, l03, s03, d03, m03, r03, x03, y03, u_s03, c03, e03⟩ := pst a0 b3 (h02 + d02) 0 ha0 hb3 (c02) (u64_lit 0 (by omega) (by omega))
  obtain ⟨h10, l10, s10, d10, m10, r10, x10, y10, u_s10, c10, e10⟩ := pst a1 b0 0 s01 ha1 hb0 (u64_lit 0 (by omega) (by omega)) u_s01
  obtain ⟨h11, l11, s11, d11, m11, r11, x11, y11, u_s11, c11, e11⟩ := pst a1 b1 (h10 + d10) s02 ha1 hb1 (c10) u_s02
  obtain ⟨h12, l12, s12, d12, m12, r12, x12, y12, u_s12, c12, e12⟩ := pst a1 b2 (h11 + d11) s03 ha1 hb2 (c11) u_s03
  obtain ⟨h13, l13, s13, d13, m13, r13, x13, y13, u_s13, c13, e13⟩ := pst a1 b3 (h12 + d12) (h03 + d03) ha1 hb3 (c12) c03
  obtain ⟨h20, l20, s20, d20, m20, r20, x20, y20, u_s20, c20, e20⟩ := pst a2 b0 0 s11 ha2 hb0 (u64_lit 0 (by omega) (by omega)) u_s11
  obtain ⟨h21, l21, s21, d21, m21, r21, x21, y21, u_s21, c21, e21⟩ := pst a2 b1 (h20 + d20) s12 ha2 hb1 (c20) u_s12
  obtain ⟨h22, l22, s22, d22, m22, r22, x22, y22, u_s22, c22, e22⟩ := pst a2 b2 (h21 + d21) s13 ha2 hb2 (c21) u_s13
  obtain ⟨h23, l23, s23, d23, m23, r23, x23, y23, u_s23, c23, e23⟩ := pst a2 b3 (h22 + d22) (h13 + d13) ha2 hb3 (c22) c13
  obtain ⟨h30, l30, s30, d30, m30, r30, x30, y30, u_s30, c30, e30⟩ := pst a3 b0 0 s21 ha3 hb0 (u64_lit 0 (by omega) (by omega)) u_s21
  obtain ⟨h31, l31, s31, d31, m31, r31, x31, y31, u_s31, c31, e31⟩ := pst a3 b1 (h30 + d30) s22 ha3 hb1 (c30) u_s22
  obtain ⟨h32, l32, s32, d32, m32, r32, x32, y32, u_s32, c32, e32⟩ := pst a3 b2 (h31 + d31) s23 ha3 hb2 (c31) u_s23
  obtain ⟨h33, l33, s33, d33, m33, r33, x33, y33, u_s33, c33, e33⟩ := pst a3 b3 (h32 + d32) (h23 + d23) ha3 hb3 (c32) c23
  have E0 := prow e00.out e01.out e02.out e03.out
  have E1 := prow e10.out e11.out e12.out e13.out
  have E2 := prow e20.out e21.out e22.out e23.out
  have E3 := prow e30.out e31.out e32.out e33.out
  have EE := prod4 E0 E1 E2 E3
  have HE : Hid (V a0 a1 a2 a3 * V b0 b1 b2 b3 = V8 s00 s10 s20 s30 s31 s32 s33 (h33 + d33)) := EE
  clear EE E0 E1 E2 E3 e00 e01 e02 e03 e10 e11 e12 e13 e20 e21 e22 e23 e30 e31 e32 e33
  have M00 : Hid _ := m00
  have M01 : Hid _ := m01
  have M02 : Hid _ := m02
  have M03 : Hid _ := m03
  have M10 : Hid _ := m10
  have M11 : Hid _ := m11
  have M12 : Hid _ := m12
  have M13 : Hid _ := m13
  have M20 : Hid _ := m20
  have M21 : Hid _ := m21
  have M22 : Hid _ := m22
  have M23 : Hid _ := m23
  have M30 : Hid _ := m30
  have M31 : Hid _ := m31
  have M32 : Hid _ := m32
  have M33 : Hid _ := m33
  clear m00 m01 m02 m03 m10 m11 m12 m13 m20 m21 m22 m23 m30 m31 m32 m33
  go_enter Tryz.func84, Tryz.ntmps84
  go_wp2
  refine wp_loop_rounds 5 ?_
  rw [rounds_succ]
  go_wp2
  refine wp_loop_rounds 5 ?_
  rw [rounds_succ]
  go_wp2
  go_region_held3 (fun w' => w'.cell? ⟨w.heap.size, 0, none⟩ = some (.int .u64 a0) ∧ w'.cell? ⟨w.heap.size + 1, 0, none⟩ = some (.int .u64 b0)) (refine ⟨?_, ?_⟩ <;> go_simp) ((go_at_call 125; refine (M00.out _).mono ?_; rintro e w' ⟨rfl, rfl⟩))
  go_wp2
  rw [rounds_succ]
  go_wp2
  go_region_held3 (fun w' => w'.cell? ⟨w.heap.size, 0, none⟩ = some (.int .u64 a0) ∧ w'.cell? ⟨w.heap.size + 1, 1, none⟩ = some (.int .u64 b1)) (refine ⟨?_, ?_⟩ <;> go_simp) ((go_at_call 125; refine (M01.out _).mono ?_; rintro e w' ⟨rfl, rfl⟩))
  go_wp2
  rw [rounds_succ]
  go_wp2
  go_region_held3 (fun w' => w'.cell? ⟨w.heap.size, 0, none⟩ = some (.int .u64 a0) ∧ w'.cell? ⟨w.heap.size + 1, 2, none⟩ = some (.int .u64 b2)) (refine ⟨?_, ?_⟩ <;> go_simp) ((go_at_call 125; refine (M02.out _).mono ?_; rintro e w' ⟨rfl, rfl⟩))
  go_wp2
  rw [rounds_succ]
  go_wp2
  go_region_held3 (fun w' => w'.cell? ⟨w.heap.size, 0, none⟩ = some (.int .u64 a0) ∧ w'.cell? ⟨w.heap.size + 1, 3, none⟩ = some (.int .u64 b3)) (refine ⟨?_, ?_⟩ <;> go_simp) ((go_at_call 125; refine (M03.out _).mono ?_; rintro e w' ⟨rfl, rfl⟩))
  go_wp2
  rw [rounds_succ]
  go_wp2
  rw [rounds_succ]
  go_wp2
  refine wp_loop_rounds 5 ?_
  rw [rounds_succ]
  go_wp2
  go_region_held3 (fun w' => w'.cell? ⟨w.heap.size, 1, none⟩ = some (.int .u64 a1) ∧ w'.cell? ⟨w.heap.size + 1, 0, none⟩ = some (.int .u64 b0)) (refine ⟨?_, ?_⟩ <;> go_simp) ((go_at_call 125; refine (M10.out _).mono ?_; rintro e w' ⟨rfl, rfl⟩))
  go_wp2
  rw [rounds_succ]
  go_wp2
  go_region_held3 (fun w' => w'.cell? ⟨w.heap.size, 1, none⟩ = some (.int .u64 a1) ∧ w'.cell? ⟨w.heap.size + 1, 1, none⟩ = some (.int .u64 b1)) (refine ⟨?_, ?_⟩ <;> go_simp) ((go_at_call 125; refine (M11.out _).mono ?_; rintro e w' ⟨rfl, rfl⟩))
  go_wp2
  rw [rounds_succ]
  go_wp2
  go_region_held3 (fun w' => w'.cell? ⟨w.heap.size, 1, none⟩ = some (.int .u64 a1) ∧ w'.cell? ⟨w.heap.size + 1, 2, none⟩ = some (.int .u64 b2)) (refine ⟨?_, ?_⟩ <;> go_simp) ((go_at_call 125; refine (M12.out _).mono ?_; rintro e w' ⟨rfl, rfl⟩))
  go_wp2
  rw [rounds_succ]
  go_wp2
  go_region_held3 (fun w' => w'.cell? ⟨w.heap.size, 1, none⟩ = some (.int .u64 a1) ∧ w'.cell? ⟨w.heap.size + 1, 3, none⟩ = some (.int .u64 b3)) (refine ⟨?_, ?_⟩ <;> go_simp) ((go_at_call 125; refine (M13.out _).mono ?_; rintro e w' ⟨rfl, rfl⟩))
  go_wp2
  rw [rounds_succ]
  go_wp2
  rw [rounds_succ]
  go_wp2
  refine wp_loop_rounds 5 ?_
  rw [rounds_succ]
  go_wp2
  go_region_held3 (fun w' => w'.cell? ⟨w.heap.size, 2, none⟩ = some (.int .u64 a2) ∧ w'.cell? ⟨w.heap.size + 1, 0, none⟩ = some (.int .u64 b0)) (refine ⟨?_, ?_⟩ <;> go_simp) ((go_at_call 125; refine (M20.out _).mono ?_; rintro e w' ⟨rfl, rfl⟩))
  go_wp2
  rw [rounds_succ]
  go_wp2
  go_region_held3 (fun w' => w'.cell? ⟨w.heap.size, 2, none⟩ = some (.int .u64 a2) ∧ w'.cell? ⟨w.heap.size + 1, 1, none⟩ = some (.int .u64 b1)) (refine ⟨?_, ?_⟩ <;> go_simp) ((go_at_call 125; refine (M21.out _).mono ?_; rintro e w' ⟨rfl, rfl⟩))
  go_wp2
  rw [rounds_succ]
  go_wp2
  go_region_held3 (fun w' => w'.cell? ⟨w.heap.size, 2, none⟩ = some (.int .u64 a2) ∧ w'.cell? ⟨w.heap.size + 1, 2, none⟩ = some (.int .u64 b2)) (refine ⟨?_, ?_⟩ <;> go_simp) ((go_at_call 125; refine (M22.out _).mono ?_; rintro e w' ⟨rfl, rfl⟩))
  go_wp2
  rw [rounds_succ]
  go_wp2
  go_region_held3 (fun w' => w'.cell? ⟨w.heap.size, 2, none⟩ = some (.int .u64 a2) ∧ w'.cell? ⟨w.heap.size + 1, 3, none⟩ = some (.int .u64 b3)) (refine ⟨?_, ?_⟩ <;> go_simp) ((go_at_call 125; refine (M23.out _).mono ?_; rintro e w' ⟨rfl, rfl⟩))
  go_wp2
  rw [rounds_succ]
  go_wp2
  rw [rounds_succ]
  go_wp2
  refine wp_loop_rounds 5 ?_
  rw [rounds_succ]
  go_wp2
  go_region_held3 (fun w' => w'.cell? ⟨w.heap.size, 3, none⟩ = some (.int .u64 a3) ∧ w'.cell? ⟨w.heap.size + 1, 0, none⟩ = some (.int .u64 b0)) (refine ⟨?_, ?_⟩ <;> go_simp) ((go_at_call 125; refine (M30.out _).mono ?_; rintro e w' ⟨rfl, rfl⟩))
  go_wp2
  rw [rounds_succ]
  go_wp2
  go_region_held3 (fun w' => w'.cell? ⟨w.heap.size, 3, none⟩ = some (.int .u64 a3) ∧ w'.cell? ⟨w.heap.size + 1, 1, none⟩ = some (.int .u64 b1)) (refine ⟨?_, ?_⟩ <;> go_simp) ((go_at_call 125; refine (M31.out _).mono ?_; rintro e w' ⟨rfl, rfl⟩))
  go_wp2
  rw [rounds_succ]
  go_wp2
  go_region_held3 (fun w' => w'.cell? ⟨w.heap.size, 3, none⟩ = some (.int .u64 a3) ∧ w'.cell? ⟨w.heap.size + 1, 2, none⟩ = some (.int .u64 b2)) (refine ⟨?_, ?_⟩ <;> go_simp) ((go_at_call 125; refine (M32.out _).mono ?_; rintro e w' ⟨rfl, rfl⟩))
  go_wp2
  rw [rounds_succ]
  go_wp2
  go_region_held3 (fun w' => w'.cell? ⟨w.heap.size, 3, none⟩ = some (.int .u64 a3) ∧ w'.cell? ⟨w.heap.size + 1, 3, none⟩ = some (.int .u64 b3)) (refine ⟨?_, ?_⟩ <;> go_simp) ((go_at_call 125; refine (M33.out _).mono ?_; rintro e w' ⟨rfl, rfl⟩))
  go_wp2
  rw [rounds_succ]
  go_wp2
  rw [rounds_succ]
  go_wp2
  exact bodyPost_ret (v := .agg #[.int .u64 (s00), .int .u64 (s10), .int .u64 (s20), .int .u64 (s30), .int .u64 (s31), .int .u64 (s32), .int .u64 (s33), .int .u64 (h33 + d33)]) (by simp [results, Tryz.results84, go_sem]) rfl
    ⟨_, _, _, _, _, _, _, _, rfl, ⟨u_s00, u_s10, u_s20, u_s30, u_s31, u_s32, u_s33, c33⟩, HE.out, by repeat' (first | with_reducible exact Below.refl _ _ | with_reducible exact Below.refl _ _ | with_reducible refine Below.drew ?_ | with_reducible refine bdrewN ?_ _ | with_reducible refine Below.alloc ?_ ?_ _ | with_reducible refine Below.setCell ?_ ?_ _ | omega | (simp; done) | (simp; omega))⟩

end Go.Proofs.YtpadpmkfhljiiaaGreat
/- Mul of any two words. -/
namespace Go.Proofs.YtpadpmkfhljiiaaGreat
open Go.RowKit
set_option maxHeartbeats 400000 in
theorem low_any (p0 p1 p2 p3 p4 p5 p6 p7 : Int) (w : World) :
    Calls Tryz.prog 83 #[.agg #[.int .u64 p0, .int .u64 p1, .int .u64 p2, .int .u64 p3, .int .u64 p4, .int .u64 p5, .int .u64 p6, .int .u64 p7]] w fun e w' => e = .returned (.agg #[.int .u64 p0, .int .u64 p1, .int .u64 p2, .int .u64 p3]) ∧ Below w.heap.size w w' := by
  go_enter Tryz.func83, Tryz.ntmps83
  go_wp2
  first
    | exact bodyPost_ret (v := .agg #[.int .u64 p0, .int .u64 p1, .int .u64 p2, .int .u64 p3]) (by simp [results, Tryz.results83, go_sem]) rfl ⟨rfl, by repeat' (first | with_reducible exact Below.refl _ _ | with_reducible exact Below.refl _ _ | with_reducible refine Below.drew ?_ | with_reducible refine bdrewN ?_ _ | with_reducible refine Below.alloc ?_ ?_ _ | with_reducible refine Below.setCell ?_ ?_ _ | omega | (simp; done) | (simp; omega))⟩
    | (go_quiet (fail); go_wp2; exact bodyPost_ret (v := .agg #[.int .u64 p0, .int .u64 p1, .int .u64 p2, .int .u64 p3]) (by simp [results, Tryz.results83, go_sem]) rfl ⟨rfl, by repeat' (first | with_reducible exact Below.refl _ _ | with_reducible exact Below.refl _ _ | with_reducible refine Below.drew ?_ | with_reducible refine bdrewN ?_ _ | with_reducible refine Below.alloc ?_ ?_ _ | with_reducible refine Below.setCell ?_ ?_ _ | omega | (simp; done) | (simp; omega))⟩)
    | (go_region; go_wp2; exact bodyPost_ret (v := .agg #[.int .u64 p0, .int .u64 p1, .int .u64 p2, .int .u64 p3]) (by simp [results, Tryz.results83, go_sem]) rfl ⟨rfl, by repeat' (first | with_reducible exact Below.refl _ _ | with_reducible exact Below.refl _ _ | with_reducible refine Below.drew ?_ | with_reducible refine bdrewN ?_ _ | with_reducible refine Below.alloc ?_ ?_ _ | with_reducible refine Below.setCell ?_ ?_ _ | omega | (simp; done) | (simp; omega))⟩)
set_option maxHeartbeats 400000 in
set_option maxRecDepth 100000 in
theorem mul_any (x y : Int) (a0 a1 a2 a3 b0 b1 b2 b3 : Int) (w : World) (ha : IsW x a0 a1 a2 a3) (hb : IsW y b0 b1 b2 b3) :
    Calls Tryz.prog 15 #[.agg #[.int .u64 a0, .int .u64 a1, .int .u64 a2, .int .u64 a3], .agg #[.int .u64 b0, .int .u64 b1, .int .u64 b2, .int .u64 b3]] w fun e w' => ∃ s0 s1 s2 s3 : Int, e = .returned (.agg #[.int .u64 s0, .int .u64 s1, .int .u64 s2, .int .u64 s3]) ∧ IsW (x * y) s0 s1 s2 s3 ∧ Below w.heap.size w w' := by
  go_enter Tryz.func15, Tryz.ntmps15
  go_wp2_with fail
  refine (product_any _ _ _ _ _ _ _ _ _ ha.u0 ha.u1 ha.u2 ha.u3 hb.u0 hb.u1 hb.u2 hb.u3).mono ?_
  rintro e w1 ⟨s0, s1, s2, s3, s4, s5, s6, s7, rfl, ⟨u0, u1, u2, u3, u4, u5, u6, u7⟩, hp, hB⟩
  have hs : IsW (x * y) s0 s1 s2 s3 := by
    refine ⟨⟨u0, u1, u2, u3⟩, ?_⟩
    rw [Int.mul_emod, ← ha.2, ← hb.2, hp, V8, Int.add_mul_emod_self_left, Int.emod_eq_of_lt (V_range u0 u1 u2 u3).1 (V_range u0 u1 u2 u3).2]
  clear hp u0 u1 u2 u3 u4 u5 u6 u7
  have zz : w.heap.size + 1 + 1 < w1.heap.size := by have := hB.size; simp at this; omega
  have kk0 : w1.cell? ⟨w.heap.size + 1 + 1, 0, none⟩ = some (.int .u64 0) := (hB.cell (p := ⟨w.heap.size + 1 + 1, 0, none⟩) (by first | omega | (simp; done) | (simp; omega))).trans (by go_simp)
  have kk1 : w1.cell? ⟨w.heap.size + 1 + 1, 1, none⟩ = some (.int .u64 0) := (hB.cell (p := ⟨w.heap.size + 1 + 1, 1, none⟩) (by first | omega | (simp; done) | (simp; omega))).trans (by go_simp)
  have kk2 : w1.cell? ⟨w.heap.size + 1 + 1, 2, none⟩ = some (.int .u64 0) := (hB.cell (p := ⟨w.heap.size + 1 + 1, 2, none⟩) (by first | omega | (simp; done) | (simp; omega))).trans (by go_simp)
  have kk3 : w1.cell? ⟨w.heap.size + 1 + 1, 3, none⟩ = some (.int .u64 0) := (hB.cell (p := ⟨w.heap.size + 1 + 1, 3, none⟩) (by first | omega | (simp; done) | (simp; omega))).trans (by go_simp)
  have ff0 : w1.frozen? ⟨w.heap.size + 1 + 1, 0, none⟩ = false := (hB.frozen (p := ⟨w.heap.size + 1 + 1, 0, none⟩) (by first | omega | (simp; done) | (simp; omega))).trans (by go_simp)
  have ff1 : w1.frozen? ⟨w.heap.size + 1 + 1, 1, none⟩ = false := (hB.frozen (p := ⟨w.heap.size + 1 + 1, 1, none⟩) (by first | omega | (simp; done) | (simp; omega))).trans (by go_simp)
  have ff2 : w1.frozen? ⟨w.heap.size + 1 + 1, 2, none⟩ = false := (hB.frozen (p := ⟨w.heap.size + 1 + 1, 2, none⟩) (by first | omega | (simp; done) | (simp; omega))).trans (by go_simp)
  have ff3 : w1.frozen? ⟨w.heap.size + 1 + 1, 3, none⟩ = false := (hB.frozen (p := ⟨w.heap.size + 1 + 1, 3, none⟩) (by first | omega | (simp; done) | (simp; omega))).trans (by go_simp)
  have B1 : Below w.heap.size w w1 := Below.trans (by repeat' (first | with_reducible exact Below.refl _ _ | with_reducible exact Below.refl _ _ | with_reducible refine Below.drew ?_ | with_reducible refine bdrewN ?_ _ | with_reducible refine Below.alloc ?_ ?_ _ | with_reducible refine Below.setCell ?_ ?_ _ | omega | (simp; done) | (simp; omega))) (hB.mono (by first | omega | (simp; done) | (simp; omega)))
  clear hB
  go_wp2_with fail
  refine (low_any _ _ _ _ _ _ _ _ _).mono ?_
  rintro e w2 ⟨rfl, hB⟩
  have zy : w.heap.size + 1 + 1 < w2.heap.size := by have := hB.size; omega
  have ll0 : w2.cell? ⟨w.heap.size + 1 + 1, 0, none⟩ = some (.int .u64 0) := (hB.cell (p := ⟨w.heap.size + 1 + 1, 0, none⟩) (by first | omega | (simp; done) | (simp; omega))).trans (by go_simp)
  have ll1 : w2.cell? ⟨w.heap.size + 1 + 1, 1, none⟩ = some (.int .u64 0) := (hB.cell (p := ⟨w.heap.size + 1 + 1, 1, none⟩) (by first | omega | (simp; done) | (simp; omega))).trans (by go_simp)
  have ll2 : w2.cell? ⟨w.heap.size + 1 + 1, 2, none⟩ = some (.int .u64 0) := (hB.cell (p := ⟨w.heap.size + 1 + 1, 2, none⟩) (by first | omega | (simp; done) | (simp; omega))).trans (by go_simp)
  have ll3 : w2.cell? ⟨w.heap.size + 1 + 1, 3, none⟩ = some (.int .u64 0) := (hB.cell (p := ⟨w.heap.size + 1 + 1, 3, none⟩) (by first | omega | (simp; done) | (simp; omega))).trans (by go_simp)
  have gg0 : w2.frozen? ⟨w.heap.size + 1 + 1, 0, none⟩ = false := (hB.frozen (p := ⟨w.heap.size + 1 + 1, 0, none⟩) (by first | omega | (simp; done) | (simp; omega))).trans (by go_simp)
  have gg1 : w2.frozen? ⟨w.heap.size + 1 + 1, 1, none⟩ = false := (hB.frozen (p := ⟨w.heap.size + 1 + 1, 1, none⟩) (by first | omega | (simp; done) | (simp; omega))).trans (by go_simp)
  have gg2 : w2.frozen? ⟨w.heap.size + 1 + 1, 2, none⟩ = false := (hB.frozen (p := ⟨w.heap.size + 1 + 1, 2, none⟩) (by first | omega | (simp; done) | (simp; omega))).trans (by go_simp)
  have gg3 : w2.frozen? ⟨w.heap.size + 1 + 1, 3, none⟩ = false := (hB.frozen (p := ⟨w.heap.size + 1 + 1, 3, none⟩) (by first | omega | (simp; done) | (simp; omega))).trans (by go_simp)
  have B2 : Below w.heap.size w w2 := Below.trans (by repeat' (first | with_reducible exact B1 | with_reducible exact Below.refl _ _ | with_reducible refine Below.drew ?_ | with_reducible refine bdrewN ?_ _ | with_reducible refine Below.alloc ?_ ?_ _ | with_reducible refine Below.setCell ?_ ?_ _ | omega | (simp; done) | (simp; omega))) (hB.mono (by first | omega | (simp; done) | (simp; omega)))
  clear hB kk0 kk1 kk2 kk3 ff0 ff1 ff2 ff3
  go_wp2
  exact bodyPost_ret (v := .agg #[.int .u64 s0, .int .u64 s1, .int .u64 s2, .int .u64 s3]) (by simp [results, Tryz.results15, go_sem, ll0, ll1, ll2, ll3]) rfl
    ⟨s0, s1, s2, s3, rfl, hs, by repeat' (first | with_reducible exact B2 | with_reducible exact Below.refl _ _ | with_reducible refine Below.drew ?_ | with_reducible refine bdrewN ?_ _ | with_reducible refine Below.alloc ?_ ?_ _ | with_reducible refine Below.setCell ?_ ?_ _ | omega | (simp; done) | (simp; omega))⟩
end Go.Proofs.YtpadpmkfhljiiaaGreat
/- Shifts by words: FromUint, below, signBits. -/
namespace Go.Proofs.YtpadpmkfhljiiaaGreat
open Go.RowKit
set_option maxHeartbeats 400000 in
theorem fromUint_any (n : Int) (w : World) :
    Calls Tryz.prog 66 #[.int .u64 n] w fun e w' => e = .returned (.agg #[.int .u64 n, .int .u64 0, .int .u64 0, .int .u64 0]) ∧ Below w.heap.size w w' := by
  go_enter Tryz.func66, Tryz.ntmps66
  go_wp2
  exact bodyPost_ret (v := .agg #[.int .u64 n, .int .u64 0, .int .u64 0, .int .u64 0]) (by simp [results, Tryz.results66, go_sem]) rfl ⟨rfl, by repeat' (first | with_reducible exact Below.refl _ _ | with_reducible exact Below.refl _ _ | with_reducible refine Below.drew ?_ | with_reducible refine bdrewN ?_ _ | with_reducible refine Below.alloc ?_ ?_ _ | with_reducible refine Below.setCell ?_ ?_ _ | omega | (simp; done) | (simp; omega))⟩

set_option maxHeartbeats 400000 in
set_option maxRecDepth 100000 in
theorem signBits_any (x : Int) (a0 a1 a2 a3 : Int) (w : World) (ha : IsW x a0 a1 a2 a3) :
    Calls Tryz.prog 102 #[.agg #[.int .u64 a0, .int .u64 a1, .int .u64 a2, .int .u64 a3]] w fun e w' => e = .returned (.int .u64 (if MM / 2 ≤ x % MM then 18446744073709551615 else 0)) ∧ Below w.heap.size w w' := by
  have H := negative_any x a0 a1 a2 a3
  by_cases h : MM / 2 ≤ x % MM
  · rw [if_pos h]
    have hd : decide (MM / 2 ≤ x % MM) = true := by simp [h]
    rw [hd] at H
    have HH : Hid _ := H
    clear H hd h
    go_enter Tryz.func102, Tryz.ntmps102
    go_wp2_with fail
    refine (HH.out _ ha).mono ?_
    rintro e w1 ⟨rfl, hB⟩
    have B1 : Below w.heap.size w w1 := Below.trans (by repeat' (first | with_reducible exact Below.refl _ _ | with_reducible exact Below.refl _ _ | with_reducible refine Below.drew ?_ | with_reducible refine bdrewN ?_ _ | with_reducible refine Below.alloc ?_ ?_ _ | with_reducible refine Below.setCell ?_ ?_ _ | omega | (simp; done) | (simp; omega))) (hB.mono (by first | omega | (simp; done) | (simp; omega)))
    clear hB HH
    go_wp2
    go_ret
    exact ⟨rfl, by repeat' (first | with_reducible exact B1 | with_reducible exact Below.refl _ _ | with_reducible refine Below.drew ?_ | with_reducible refine bdrewN ?_ _ | with_reducible refine Below.alloc ?_ ?_ _ | with_reducible refine Below.setCell ?_ ?_ _ | omega | (simp; done) | (simp; omega))⟩
  · rw [if_neg h]
    have hd : decide (MM / 2 ≤ x % MM) = false := by simp [h]
    rw [hd] at H
    have HH : Hid _ := H
    clear H hd h
    go_enter Tryz.func102, Tryz.ntmps102
    go_wp2_with fail
    refine (HH.out _ ha).mono ?_
    rintro e w1 ⟨rfl, hB⟩
    have B1 : Below w.heap.size w w1 := Below.trans (by repeat' (first | with_reducible exact Below.refl _ _ | with_reducible exact Below.refl _ _ | with_reducible refine Below.drew ?_ | with_reducible refine bdrewN ?_ _ | with_reducible refine Below.alloc ?_ ?_ _ | with_reducible refine Below.setCell ?_ ?_ _ | omega | (simp; done) | (simp; omega))) (hB.mono (by first | omega | (simp; done) | (simp; omega)))
    clear hB HH
    go_wp2
    go_ret
    exact ⟨rfl, by repeat' (first | with_reducible exact B1 | with_reducible exact Below.refl _ _ | with_reducible refine Below.drew ?_ | with_reducible refine bdrewN ?_ _ | with_reducible refine Below.alloc ?_ ?_ _ | with_reducible refine Below.setCell ?_ ?_ _ | omega | (simp; done) | (simp; omega))⟩

set_option maxHeartbeats 1000000 in
set_option maxRecDepth 100000 in
theorem below_lt (x n : Int) (a0 a1 a2 a3 : Int) (w : World) (ha : IsW x a0 a1 a2 a3) (hn : IsW n n 0 0 0) (h : x % MM < n % MM) :
    Calls Tryz.prog 100 #[.agg #[.int .u64 a0, .int .u64 a1, .int .u64 a2, .int .u64 a3], .int .u64 n] w fun e w' => e = .returned (.tuple #[.int .u64 a0, .bool true]) ∧ Below w.heap.size w w' := by
  have H : Hid (decide (x % MM < n % MM) = true) := by unfold Hid; simp [h]
  clear h
  go_enter Tryz.func100, Tryz.ntmps100
  go_wp2
  go_region_held3 (fun w' => Below w.heap.size w w' ∧ w.heap.size < w'.heap.size ∧ w'.cell? ⟨w.heap.size, 0, none⟩ = some (.int .u64 a0) ∧ w'.cell? ⟨w.heap.size, 1, none⟩ = some (.int .u64 a1) ∧ w'.cell? ⟨w.heap.size, 2, none⟩ = some (.int .u64 a2) ∧ w'.cell? ⟨w.heap.size, 3, none⟩ = some (.int .u64 a3)) (first | (have hzz := hB3.size; go_split_ands; (try dsimp only); refine ⟨?_, ?_, ?_, ?_, ?_, ?_⟩ <;> first | (with_reducible refine Below.trans ?_ (hB3.mono ?_) <;> first | with_reducible assumption | omega | ((try simp at hzz); omega) | (simp; omega) | ((repeat' (first | with_reducible exact Below.refl _ _ | with_reducible exact Below.refl _ _ | with_reducible refine Below.drew ?_ | with_reducible refine bdrewN ?_ _ | with_reducible refine Below.alloc ?_ ?_ _ | with_reducible refine Below.setCell ?_ ?_ _ | omega | (simp; done) | (simp; omega))); done)) | ((try simp at hzz); omega) | (with_reducible refine (hB3.cell ?_).trans ?_ <;> first | with_reducible assumption | omega | (simp; done) | (simp; omega) | (go_simp; done)) | (with_reducible refine (hB3.frozen ?_).trans ?_ <;> first | with_reducible assumption | omega | (simp; done) | (simp; omega) | (go_simp; done))) | (have hzz := hB2.size; go_split_ands; (try dsimp only); refine ⟨?_, ?_, ?_, ?_, ?_, ?_⟩ <;> first | (with_reducible refine Below.trans ?_ (hB2.mono ?_) <;> first | with_reducible assumption | omega | ((try simp at hzz); omega) | (simp; omega) | ((repeat' (first | with_reducible exact Below.refl _ _ | with_reducible exact Below.refl _ _ | with_reducible refine Below.drew ?_ | with_reducible refine bdrewN ?_ _ | with_reducible refine Below.alloc ?_ ?_ _ | with_reducible refine Below.setCell ?_ ?_ _ | omega | (simp; done) | (simp; omega))); done)) | ((try simp at hzz); omega) | (with_reducible refine (hB2.cell ?_).trans ?_ <;> first | with_reducible assumption | omega | (simp; done) | (simp; omega) | (go_simp; done)) | (with_reducible refine (hB2.frozen ?_).trans ?_ <;> first | with_reducible assumption | omega | (simp; done) | (simp; omega) | (go_simp; done))) | ((try dsimp only); refine ⟨?_, ?_, ?_, ?_, ?_, ?_⟩ <;> first | with_reducible assumption | (simp; done) | (go_simp; done) | ((repeat' (first | with_reducible exact Below.refl _ _ | with_reducible exact Below.refl _ _ | with_reducible refine Below.drew ?_ | with_reducible refine bdrewN ?_ _ | with_reducible refine Below.alloc ?_ ?_ _ | with_reducible refine Below.setCell ?_ ?_ _ | omega | (simp; done) | (simp; omega))); done))) (first
    | (go_at_call 66; refine (fromUint_any _ _).mono ?_; rintro e w2 ⟨rfl, hB2⟩)
    | (go_at_call 96; refine (lt_is _ _ _ _ _ _ _ _ _ ha hn _ H.out).mono ?_; rintro e w3 ⟨rfl, hB3⟩))
  go_split_ands
  go_wp2
  go_ret2
  exact ⟨rfl, by with_reducible assumption⟩
set_option maxHeartbeats 1000000 in
set_option maxRecDepth 100000 in
theorem below_ge (x n : Int) (a0 a1 a2 a3 : Int) (w : World) (ha : IsW x a0 a1 a2 a3) (hn : IsW n n 0 0 0) (h : ¬ x % MM < n % MM) :
    Calls Tryz.prog 100 #[.agg #[.int .u64 a0, .int .u64 a1, .int .u64 a2, .int .u64 a3], .int .u64 n] w fun e w' => e = .returned (.tuple #[.int .u64 0, .bool false]) ∧ Below w.heap.size w w' := by
  have H : Hid (decide (x % MM < n % MM) = false) := by unfold Hid; simp [h]
  clear h
  go_enter Tryz.func100, Tryz.ntmps100
  go_wp2
  go_region_held3 (fun w' => Below w.heap.size w w' ∧ w.heap.size < w'.heap.size ∧ w'.cell? ⟨w.heap.size, 0, none⟩ = some (.int .u64 a0) ∧ w'.cell? ⟨w.heap.size, 1, none⟩ = some (.int .u64 a1) ∧ w'.cell? ⟨w.heap.size, 2, none⟩ = some (.int .u64 a2) ∧ w'.cell? ⟨w.heap.size, 3, none⟩ = some (.int .u64 a3)) (first | (have hzz := hB3.size; go_split_ands; (try dsimp only); refine ⟨?_, ?_, ?_, ?_, ?_, ?_⟩ <;> first | (with_reducible refine Below.trans ?_ (hB3.mono ?_) <;> first | with_reducible assumption | omega | ((try simp at hzz); omega) | (simp; omega) | ((repeat' (first | with_reducible exact Below.refl _ _ | with_reducible exact Below.refl _ _ | with_reducible refine Below.drew ?_ | with_reducible refine bdrewN ?_ _ | with_reducible refine Below.alloc ?_ ?_ _ | with_reducible refine Below.setCell ?_ ?_ _ | omega | (simp; done) | (simp; omega))); done)) | ((try simp at hzz); omega) | (with_reducible refine (hB3.cell ?_).trans ?_ <;> first | with_reducible assumption | omega | (simp; done) | (simp; omega) | (go_simp; done)) | (with_reducible refine (hB3.frozen ?_).trans ?_ <;> first | with_reducible assumption | omega | (simp; done) | (simp; omega) | (go_simp; done))) | (have hzz := hB2.size; go_split_ands; (try dsimp only); refine ⟨?_, ?_, ?_, ?_, ?_, ?_⟩ <;> first | (with_reducible refine Below.trans ?_ (hB2.mono ?_) <;> first | with_reducible assumption | omega | ((try simp at hzz); omega) | (simp; omega) | ((repeat' (first | with_reducible exact Below.refl _ _ | with_reducible exact Below.refl _ _ | with_reducible refine Below.drew ?_ | with_reducible refine bdrewN ?_ _ | with_reducible refine Below.alloc ?_ ?_ _ | with_reducible refine Below.setCell ?_ ?_ _ | omega | (simp; done) | (simp; omega))); done)) | ((try simp at hzz); omega) | (with_reducible refine (hB2.cell ?_).trans ?_ <;> first | with_reducible assumption | omega | (simp; done) | (simp; omega) | (go_simp; done)) | (with_reducible refine (hB2.frozen ?_).trans ?_ <;> first | with_reducible assumption | omega | (simp; done) | (simp; omega) | (go_simp; done))) | ((try dsimp only); refine ⟨?_, ?_, ?_, ?_, ?_, ?_⟩ <;> first | with_reducible assumption | (simp; done) | (go_simp; done) | ((repeat' (first | with_reducible exact Below.refl _ _ | with_reducible exact Below.refl _ _ | with_reducible refine Below.drew ?_ | with_reducible refine bdrewN ?_ _ | with_reducible refine Below.alloc ?_ ?_ _ | with_reducible refine Below.setCell ?_ ?_ _ | omega | (simp; done) | (simp; omega))); done))) (first
    | (go_at_call 66; refine (fromUint_any _ _).mono ?_; rintro e w2 ⟨rfl, hB2⟩)
    | (go_at_call 96; refine (lt_is _ _ _ _ _ _ _ _ _ ha hn _ H.out).mono ?_; rintro e w3 ⟨rfl, hB3⟩))
  go_split_ands
  go_wp2
  go_ret2
  exact ⟨rfl, by with_reducible assumption⟩
end Go.Proofs.YtpadpmkfhljiiaaGreat
/- Exp: powers, bit by bit. -/
namespace Go.Proofs.YtpadpmkfhljiiaaGreat
open Go.RowKit
/-- block b holds this word, and may be written -/
def Box (W : World) (b : Nat) (a0 a1 a2 a3 : Int) : Prop := (∀ i, i < 4 → W.cell? ⟨b, i, none⟩ = some (.int .u64 (limb a0 a1 a2 a3 i))) ∧ ∀ i, i < 4 → W.frozen? ⟨b, i, none⟩ = false
theorem Box.lt {W : World} {b : Nat} {a0 a1 a2 a3 : Int} (h : Box W b a0 a1 a2 a3) : b < W.heap.size := World.block_lt_of_cell? W _ (h.1 0 (by omega))
theorem Box.below {W W' : World} {B b : Nat} {a0 a1 a2 a3 : Int} (h : Box W b a0 a1 a2 a3) (k : Below B W W') (hb : b < B) : Box W' b a0 a1 a2 a3 :=
  ⟨fun i hi => (k.cell (p := ⟨b, i, none⟩) hb).trans (h.1 i hi), fun i hi => (k.frozen (p := ⟨b, i, none⟩) hb).trans (h.2 i hi)⟩
theorem Box.new (W : World) (t : TypeId) (a0 a1 a2 a3 : Int) : Box (W.alloc (.cells #[.int .u64 a0, .int .u64 a1, .int .u64 a2, .int .u64 a3] t)) W.heap.size a0 a1 a2 a3 :=
  ⟨fun i hi => box_cell W a0 a1 a2 a3 t i hi, fun i _ => by simp [World.frozen?_alloc_at]⟩
theorem Box.alloc {W : World} {b : Nat} {a0 a1 a2 a3 : Int} (h : Box W b a0 a1 a2 a3) (o : Obj) : Box (W.alloc o) b a0 a1 a2 a3 := h.below ((Below.refl _ _).alloc (Nat.le_refl _) _) h.lt
theorem Box.other {W : World} {b : Nat} {a0 a1 a2 a3 : Int} (h : Box W b a0 a1 a2 a3) (p : Addr) (x : Value) (hp : p.block ≠ b) : Box (W.setCell p x) b a0 a1 a2 a3 :=
  ⟨fun i hi => by rw [World.cell?_setCell_other _ _ _ _ (by intro e; subst e; exact hp rfl)]; exact h.1 i hi, fun i hi => by rw [World.frozen?_setCell]; exact h.2 i hi⟩
theorem Box.facts {W : World} {b : Nat} {a0 a1 a2 a3 : Int} (h : Box W b a0 a1 a2 a3) : W.cell? ⟨b, 0, none⟩ = some (.int .u64 a0) ∧ W.cell? ⟨b, 1, none⟩ = some (.int .u64 a1) ∧ W.cell? ⟨b, 2, none⟩ = some (.int .u64 a2) ∧ W.cell? ⟨b, 3, none⟩ = some (.int .u64 a3) ∧
    W.frozen? ⟨b, 0, none⟩ = false ∧ W.frozen? ⟨b, 1, none⟩ = false ∧ W.frozen? ⟨b, 2, none⟩ = false ∧ W.frozen? ⟨b, 3, none⟩ = false :=
  ⟨h.1 0 (by omega), h.1 1 (by omega), h.1 2 (by omega), h.1 3 (by omega), h.2 0 (by omega), h.2 1 (by omega), h.2 2 (by omega), h.2 3 (by omega)⟩
theorem Box.drew {W : World} {b : Nat} {a0 a1 a2 a3 : Int} (h : Box W b a0 a1 a2 a3) : Box W.drew b a0 a1 a2 a3 := h
/-- a word is laid over another -/
def put4 (W : World) (b : Nat) (s0 s1 s2 s3 : Int) : World := (((W.setCell ⟨b, 0, none⟩ (.int .u64 s0)).setCell ⟨b, 1, none⟩ (.int .u64 s1)).setCell ⟨b, 2, none⟩ (.int .u64 s2)).setCell ⟨b, 3, none⟩ (.int .u64 s3)
theorem Box.put {W : World} {b : Nat} {a0 a1 a2 a3 : Int} (h : Box W b a0 a1 a2 a3) (s0 s1 s2 s3 : Int) : Box (put4 W b s0 s1 s2 s3) b s0 s1 s2 s3 := by
  obtain ⟨c0, c1, c2, c3, f0, f1, f2, f3⟩ := h.facts
  unfold put4
  refine ⟨fun i hi => ?_, fun i hi => by simp only [World.frozen?_setCell]; exact h.2 i hi⟩
  obtain rfl | rfl | rfl | rfl : i = 0 ∨ i = 1 ∨ i = 2 ∨ i = 3 := by omega
  all_goals (show _ = some _; go_simp; rfl)
theorem Box.put_other {W : World} {b c : Nat} {a0 a1 a2 a3 : Int} (h : Box W b a0 a1 a2 a3) (hc : c ≠ b) (s0 s1 s2 s3 : Int) : Box (put4 W c s0 s1 s2 s3) b a0 a1 a2 a3 :=
  (((h.other _ _ hc).other _ _ hc).other _ _ hc).other _ _ hc
theorem below_put {B c : Nat} {w W : World} (h : Below B w W) (hc : B ≤ c) (s0 s1 s2 s3 : Int) : Below B w (put4 W c s0 s1 s2 s3) := (((h.setCell hc _).setCell hc _).setCell hc _).setCell hc _
/-- while the power is made -/
structure ExpInv (w : World) (c : Nat) (a0 a1 a2 a3 b0 b1 b2 b3 s0 s1 s2 s3 : Int) (W : World) : Prop where
  bel : Below w.heap.size w W
  ba : Box W w.heap.size a0 a1 a2 a3
  bb : Box W (w.heap.size + 1) b0 b1 b2 b3
  br : Box W (w.heap.size + 1 + 1) 0 0 0 0
  bp : Box W c s0 s1 s2 s3
theorem ExpInv.past {w W W' : World} {c : Nat} {a0 a1 a2 a3 b0 b1 b2 b3 s0 s1 s2 s3 : Int} (h : ExpInv w c a0 a1 a2 a3 b0 b1 b2 b3 s0 s1 s2 s3 W) (k : Below W.heap.size W W') : ExpInv w c a0 a1 a2 a3 b0 b1 b2 b3 s0 s1 s2 s3 W' :=
  ⟨h.bel.trans (k.mono h.bel.size), h.ba.below k h.ba.lt, h.bb.below k h.bb.lt, h.br.below k h.br.lt, h.bp.below k h.bp.lt⟩
theorem ExpInv.put {w W : World} {c : Nat} {a0 a1 a2 a3 b0 b1 b2 b3 s0 s1 s2 s3 : Int} (h : ExpInv w c a0 a1 a2 a3 b0 b1 b2 b3 s0 s1 s2 s3 W) (hc : w.heap.size + 1 + 1 < c) (t0 t1 t2 t3 : Int) : ExpInv w c a0 a1 a2 a3 b0 b1 b2 b3 t0 t1 t2 t3 (put4 W c t0 t1 t2 t3) :=
  ⟨below_put h.bel (by omega) _ _ _ _, h.ba.put_other (by omega) _ _ _ _, h.bb.put_other (by omega) _ _ _ _, h.br.put_other (by omega) _ _ _ _, h.bp.put _ _ _ _⟩
set_option maxHeartbeats 2000000 in
set_option maxRecDepth 100000 in
theorem exp_any (x y : Int) (a0 a1 a2 a3 b0 b1 b2 b3 : Int) (w : World) (ha : IsW x a0 a1 a2 a3) (hb : IsW y b0 b1 b2 b3) (Y : Nat) (hY : V b0 b1 b2 b3 = (Y : Int)) :
    Calls Tryz.prog 145 #[.agg #[.int .u64 a0, .int .u64 a1, .int .u64 a2, .int .u64 a3], .agg #[.int .u64 b0, .int .u64 b1, .int .u64 b2, .int .u64 b3]] w fun e w' => ∃ s0 s1 s2 s3 : Int, e = .returned (.agg #[.int .u64 s0, .int .u64 s1, .int .u64 s2, .int .u64 s3]) ∧ IsW (x ^ Y) s0 s1 s2 s3 ∧ Below w.heap.size w w' := by
  have HA : Hid (IsW x a0 a1 a2 a3) := ha
  have HB : Hid (IsW y b0 b1 b2 b3) := hb
  have HY : Hid (V b0 b1 b2 b3 = (Y : Int)) := hY
  have I0 : Hid (Below w.heap.size w (((w.alloc (.cells #[.int .u64 a0, .int .u64 a1, .int .u64 a2, .int .u64 a3] 24)).alloc (.cells #[.int .u64 b0, .int .u64 b1, .int .u64 b2, .int .u64 b3] 24)).alloc (.cells #[.int .u64 0, .int .u64 0, .int .u64 0, .int .u64 0] 24))) := by
    unfold Hid; repeat' (first | with_reducible exact Below.refl _ _ | with_reducible exact Below.refl _ _ | with_reducible refine Below.drew ?_ | with_reducible refine bdrewN ?_ _ | with_reducible refine Below.alloc ?_ ?_ _ | with_reducible refine Below.setCell ?_ ?_ _ | omega | (simp; done) | (simp; omega))
  have A0 : Hid (∀ W, W = (((w.alloc (.cells #[.int .u64 a0, .int .u64 a1, .int .u64 a2, .int .u64 a3] 24)).alloc (.cells #[.int .u64 b0, .int .u64 b1, .int .u64 b2, .int .u64 b3] 24)).alloc (.cells #[.int .u64 0, .int .u64 0, .int .u64 0, .int .u64 0] 24)) →
      Box W w.heap.size a0 a1 a2 a3 ∧ Box W (w.heap.size + 1) b0 b1 b2 b3 ∧ Box W (w.heap.size + 1 + 1) 0 0 0 0) := fun W e => by
    subst e
    have h2 := Box.new (w.alloc (.cells #[.int .u64 a0, .int .u64 a1, .int .u64 a2, .int .u64 a3] 24)) 24 b0 b1 b2 b3
    have h3 := Box.new ((w.alloc (.cells #[.int .u64 a0, .int .u64 a1, .int .u64 a2, .int .u64 a3] 24)).alloc (.cells #[.int .u64 b0, .int .u64 b1, .int .u64 b2, .int .u64 b3] 24)) 24 0 0 0 0
    rw [World.size_alloc] at h2 h3
    rw [World.size_alloc] at h3
    exact ⟨((Box.new w 24 a0 a1 a2 a3).alloc _).alloc _, h2.alloc _, h3⟩
  clear ha hb hY
  go_enter Tryz.func145, Tryz.ntmps145
  go_wp2_with fail
  refine (fromUint_any 1 _).mono ?_
  rintro e v1 ⟨rfl, hB⟩
  obtain ⟨h1, h2, h3⟩ := A0.out _ rfl
  have W1 : Hid (Below w.heap.size w v1) := Below.trans I0.out (hB.mono I0.out.size)
  have BA : Hid (Box v1 w.heap.size a0 a1 a2 a3) := h1.below hB h1.lt
  have BB : Hid (Box v1 (w.heap.size + 1) b0 b1 b2 b3) := h2.below hB h2.lt
  have BR : Hid (Box v1 (w.heap.size + 1 + 1) 0 0 0 0) := h3.below hB h3.lt
  have zc : w.heap.size + 1 + 1 < v1.heap.size := Box.lt BR.out
  clear hB h1 h2 h3 A0 I0
  go_upto_region 2 with fail
  have X1 : Hid (ExpInv w v1.heap.size a0 a1 a2 a3 b0 b1 b2 b3 1 0 0 0 (v1.alloc (.cells #[.int .u64 1, .int .u64 0, .int .u64 0, .int .u64 0] 24))) := ⟨Below.alloc W1.out W1.out.size _, Box.alloc BA.out _, Box.alloc BB.out _, Box.alloc BR.out _, Box.new v1 24 1 0 0 0⟩
  generalize v1.alloc (.cells #[.int .u64 1, .int .u64 0, .int .u64 0, .int .u64 0] 24) = v2 at X1 ⊢
  generalize v1.heap.size = c at zc X1 ⊢
  clear W1 BA BB BR
  obtain ⟨cb0, cb1, cb2, cb3, _⟩ := Box.facts X1.out.bb
  go_wp2_with fail
  refine (zerosAhead_any y b0 b1 b2 b3 _ HB.out).mono ?_
  rintro e v3 ⟨B, rfl, hB256, hbits, hB⟩
  have X3 : Hid (ExpInv w c a0 a1 a2 a3 b0 b1 b2 b3 1 0 0 0 v3) := ExpInv.past X1.out hB
  have S0 : Hid (IsW (x ^ (Y / 2 ^ B)) 1 0 0 0) := by
    have h1 := hbits.1
    rw [HY.out] at h1
    have h2 : Y < 2 ^ B := by exact_mod_cast h1
    unfold Hid
    rw [Nat.div_eq_of_lt h2, Int.pow_zero]; exact isW_1
  have eB : (255 : Int) - (256 - (B : Int)) = (B : Int) - 1 := by omega
  have bI : (B : Int) ≤ 256 := by omega
  clear hB hbits cb0 cb1 cb2 cb3 X1
  go_wp2
  go_loopw [6] (fun i wr => ∃ (j : Nat) (s0 s1 s2 s3 : Int), i = .int .i64 ((j : Int) - 1) ∧ j ≤ 256 ∧ IsW (x ^ (Y / 2 ^ j)) s0 s1 s2 s3 ∧ ExpInv w c a0 a1 a2 a3 b0 b1 b2 b3 s0 s1 s2 s3 wr) (fun i _ => (intOf i + 1).toNat)
  case atStart => exact ⟨B, 1, 0, 0, 0, by first | rfl | go_num, hB256, S0.out, X3.out⟩
  case round =>
    obtain ⟨j, s0, s1, s2, s3, rfl, hj, hs, hX⟩ := hrel
    clear X3 S0 eB bI hB256
    have HS : Hid (IsW (x ^ (Y / 2 ^ j)) s0 s1 s2 s3) := hs
    have X : Hid (ExpInv w c a0 a1 a2 a3 b0 b1 b2 b3 s0 s1 s2 s3 wr) := hX
    clear hs hX
    rcases j with _ | j
    · obtain ⟨p0, p1, p2, p3, _⟩ := Box.facts X.out.bp
      obtain ⟨r0, r1, r2, r3, f0, f1, f2, f3⟩ := Box.facts X.out.br
      go_wp2
      exact bodyPost_ret (v := .agg #[.int .u64 s0, .int .u64 s1, .int .u64 s2, .int .u64 s3]) (by simp [results, Tryz.results145, go_sem, r0, r1, r2, r3]) rfl ⟨s0, s1, s2, s3, rfl, by have h := HS.out; rw [Nat.pow_zero, Nat.div_one] at h; exact h, below_put X.out.bel (by omega) _ _ _ _⟩
    · rw [show ((j + 1 : Nat) : Int) - 1 = (j : Int) by omega]
      obtain ⟨p0, p1, p2, p3, q0, q1, q2, q3⟩ := Box.facts X.out.bp
      have jI : (0 : Int) ≤ (j : Int) := by omega
      go_upto_region 6 with (go_at_call 15; refine (mul_any _ _ _ _ _ _ _ _ _ _ _ HS.out HS.out).mono ?_; rintro e x1 ⟨t0, t1, t2, t3, rfl, ht, hB⟩; (have HT : Hid (IsW (x ^ (Y / 2 ^ (j + 1)) * x ^ (Y / 2 ^ (j + 1))) t0 t1 t2 t3) := ht); (have X1 : Hid (ExpInv w c a0 a1 a2 a3 b0 b1 b2 b3 s0 s1 s2 s3 x1) := ExpInv.past X.out hB); clear ht hB p0 p1 p2 p3 q0 q1 q2 q3; obtain ⟨p0, p1, p2, p3, q0, q1, q2, q3⟩ := Box.facts X1.out.bp)
      have X2 : Hid (ExpInv w c a0 a1 a2 a3 b0 b1 b2 b3 t0 t1 t2 t3 ((((x1.setCell ⟨c, 0, none⟩ (.int .u64 t0)).setCell ⟨c, 1, none⟩ (.int .u64 t1)).setCell ⟨c, 2, none⟩ (.int .u64 t2)).setCell ⟨c, 3, none⟩ (.int .u64 t3))) := ExpInv.put X1.out zc t0 t1 t2 t3
      generalize ((((x1.setCell ⟨c, 0, none⟩ (.int .u64 t0)).setCell ⟨c, 1, none⟩ (.int .u64 t1)).setCell ⟨c, 2, none⟩ (.int .u64 t2)).setCell ⟨c, 3, none⟩ (.int .u64 t3)) = x2 at X2 ⊢
      clear X X1 p0 p1 p2 p3 q0 q1 q2 q3
      obtain ⟨p0, p1, p2, p3, q0, q1, q2, q3⟩ := Box.facts X2.out.bp
      obtain ⟨d, ed⟩ : ∃ d : Nat, d = j / 64 := ⟨_, rfl⟩
      obtain ⟨r, er⟩ : ∃ r : Nat, r = j % 64 := ⟨_, rfl⟩
      have t1' : Int.tdiv (j : Int) 64 = (d : Int) := by rw [Int.tdiv_eq_ediv_of_nonneg (by omega)]; omega
      have t2' : Int.tmod (j : Int) 64 = (r : Int) := by rw [Int.tmod_eq_emod_of_nonneg (by omega)]; omega
      have w1 : IntKind.i64.wrap (d : Int) = (d : Int) := by rw [IntKind.wrap_i64]; omega
      have w2 : IntKind.i64.wrap (r : Int) = (r : Int) := by rw [IntKind.wrap_i64]; omega
      have w3 : IntKind.u64.wrap (r : Int) = (r : Int) := by rw [IntKind.wrap_u64]; omega
      have dI : (d : Int) < 4 := by omega
      have d4 : d < 4 := by omega
      have r64 : (r : Int) < 64 := by omega
      have r0' : (0 : Int) ≤ (r : Int) := by omega
      have m5 : min r 64 = r := by omega
      have cd := X2.out.bb.1 d d4
      have hu := limb_u64 HB.out.u0 HB.out.u1 HB.out.u2 HB.out.u3 d
      have hbit := bit_limb HB.out.u0 HB.out.u1 HB.out.u2 HB.out.u3 Y HY.out j (by omega)
      rw [← ed, ← er] at hbit
      have hv := bit_val hu r
      rw [hbit] at hv
      have hh := half_bit Y j
      generalize limb b0 b1 b2 b3 d = z at cd hv
      have HH : Hid _ := hh
      clear hu hbit ed er hh
      by_cases hbt : Y.testBit j = true
      · have hv1 : bits .and .u64 (z / 2 ^ r) 1 = 1 := by rw [hv, if_pos hbt]
        obtain ⟨a0', a1', a2', a3', _⟩ := Box.facts X2.out.ba
        clear hv
        go_upto_region 4 with (go_at_call 15; refine (mul_any _ _ _ _ _ _ _ _ _ _ _ HT.out HA.out).mono ?_; rintro e x3 ⟨u0, u1, u2, u3, rfl, ht, hB⟩; (have HU : Hid (IsW (x ^ (Y / 2 ^ (j + 1)) * x ^ (Y / 2 ^ (j + 1)) * x) u0 u1 u2 u3) := ht); (have X3 : Hid (ExpInv w c a0 a1 a2 a3 b0 b1 b2 b3 t0 t1 t2 t3 x3) := ExpInv.past X2.out hB); clear ht hB p0 p1 p2 p3 q0 q1 q2 q3; obtain ⟨p0, p1, p2, p3, q0, q1, q2, q3⟩ := Box.facts X3.out.bp)
        have X4 : Hid (ExpInv w c a0 a1 a2 a3 b0 b1 b2 b3 u0 u1 u2 u3 ((((x3.setCell ⟨c, 0, none⟩ (.int .u64 u0)).setCell ⟨c, 1, none⟩ (.int .u64 u1)).setCell ⟨c, 2, none⟩ (.int .u64 u2)).setCell ⟨c, 3, none⟩ (.int .u64 u3))) := ExpInv.put X3.out zc u0 u1 u2 u3
        generalize ((((x3.setCell ⟨c, 0, none⟩ (.int .u64 u0)).setCell ⟨c, 1, none⟩ (.int .u64 u1)).setCell ⟨c, 2, none⟩ (.int .u64 u2)).setCell ⟨c, 3, none⟩ (.int .u64 u3)) = x4 at X4 ⊢
        clear X2 X3 p0 p1 p2 p3 q0 q1 q2 q3 cd a0' a1' a2' a3'
        have R : Hid (IsW (x ^ (Y / 2 ^ j)) u0 u1 u2 u3) := by
          have h := HU.out
          unfold Hid
          rw [HH.out, hbt, if_pos rfl, Int.pow_succ, Nat.two_mul, Int.pow_add]; exact h
        clear HU HT HS HH
        go_wp2
        go_roundw
        case rel => exact ⟨j, u0, u1, u2, u3, rfl, by omega, R.out, X4.out⟩
        case measure => simp [intOf]
      · have hv1 : bits .and .u64 (z / 2 ^ r) 1 = 0 := by rw [hv, if_neg hbt]
        have R : Hid (IsW (x ^ (Y / 2 ^ j)) t0 t1 t2 t3) := by
          have h := HT.out
          unfold Hid
          rw [HH.out, if_neg hbt, Nat.add_zero, Nat.two_mul, Int.pow_add]; exact h
        clear hv HT HS HH
        go_wp2
        go_roundw
        case rel => exact ⟨j, t0, t1, t2, t3, rfl, by omega, R.out, X2.out⟩
        case measure => simp [intOf]
end Go.Proofs.YtpadpmkfhljiiaaGreat
/- The document's 'of' (a word's digits), 'none', and its comparisons. -/
namespace Go.Proofs.YtpadpmkfhljiiaaGreat
open Go.RowKit
theorem dig_limb {a0 a1 a2 a3 : Int} (h0 : U64 a0) (h1 : U64 a1) (h2 : U64 a2) (h3 : U64 a3) (X : Nat) (hX : V a0 a1 a2 a3 = (X : Int)) (i : Nat) (hi : i < 32) : ((limb a0 a1 a2 a3 (i / 8)).toNat / 256 ^ (i % 8)) % 256 = dig X i := by
  obtain ⟨h00, h01⟩ := h0
  obtain ⟨h10, h11⟩ := h1
  obtain ⟨h20, h21⟩ := h2
  obtain ⟨h30, h31⟩ := h3
  unfold Bd at h01 h11 h21 h31
  unfold V Bd at hX
  rw [dig, if_pos hi]
  obtain ⟨q, eq⟩ : ∃ q, q = i / 8 := ⟨_, rfl⟩
  obtain ⟨r, er⟩ : ∃ r, r = i % 8 := ⟨_, rfl⟩
  rw [show i = 8 * q + r by omega, show (8 * q + r) / 8 = q by omega, show (8 * q + r) % 8 = r by omega, Nat.pow_add, ← Nat.div_div_eq_div_mul]
  have hq : q = 0 ∨ q = 1 ∨ q = 2 ∨ q = 3 := by omega
  have hr : r = 0 ∨ r = 1 ∨ r = 2 ∨ r = 3 ∨ r = 4 ∨ r = 5 ∨ r = 6 ∨ r = 7 := by omega
  have key : ∃ hi : Nat, X / 256 ^ (8 * q) = (limb a0 a1 a2 a3 q).toNat + 18446744073709551616 * hi := by
    rcases hq with rfl | rfl | rfl | rfl
    · exact ⟨X / 18446744073709551616, by simp only [limb]; simp; omega⟩
    · exact ⟨X / 340282366920938463463374607431768211456, by simp only [limb]; simp; omega⟩
    · exact ⟨X / 6277101735386680763835789423207666416102355444464034512896, by simp only [limb]; simp; omega⟩
    · exact ⟨0, by simp only [limb]; simp; omega⟩
  obtain ⟨hh, key⟩ := key
  rw [key]
  generalize (limb a0 a1 a2 a3 q).toNat = l
  rcases hr with rfl | rfl | rfl | rfl | rfl | rfl | rfl | rfl <;> simp only [Nat.reducePow, Nat.pow_zero] <;> omega
theorem of_step {W0 wr w1 : World} {v v' : Value} {o : Obj} {d : Nat → Nat} {k y : Nat} (hy : y = d k) (hown : wr.ownsRow W0.heap.size 3 1 v k (intsD d k)) (hB : Below W0.heap.size W0 wr)
    (hown' : w1.ownsRow W0.heap.size 3 1 v' (k + 1) (intsD d k ++ [.int .i64 (y : Int)])) (hg : (wr.alloc o).grownBy w1 v.ownBlock) :
    w1.ownsRow W0.heap.size 3 1 v' (k + 1) (intsD d (k + 1)) ∧ Below W0.heap.size W0 w1 := by
  rw [intsD_snoc, ← hy]
  exact ⟨hown', Below.grown (hB.alloc hB.size o) hg (by have := hB.size; simp; omega) (fun q h => (hown.lt q h).1)⟩
set_option maxHeartbeats 2000000 in
set_option maxRecDepth 100000 in
theorem of_is (x : Int) (a0 a1 a2 a3 : Int) (w : World) (ha : IsW x a0 a1 a2 a3) (X : Nat) (hX : V a0 a1 a2 a3 = (X : Int)) :
    Calls Tryz.prog 79 #[.agg #[.int .u64 a0, .int .u64 a1, .int .u64 a2, .int .u64 a3]] w fun e w' => ∃ v, e = .returned v ∧ RowAt w' v 32 (dig X) ∧ Below w.heap.size w w' := by
  have HA : Hid (IsW x a0 a1 a2 a3) := ha
  have HX : Hid (V a0 a1 a2 a3 = (X : Int)) := hX
  obtain ⟨i0, hi, hz0, hz1, hz2⟩ := info_parts Tryz.infoI
  have B1 : Hid (Below w.heap.size w (w.alloc (.cells #[.int .u64 a0, .int .u64 a1, .int .u64 a2, .int .u64 a3] 24))) := (Below.refl _ _).alloc (by omega) _
  have hc := box_cell w a0 a1 a2 a3 24
  have HC : Hid _ := hc
  clear ha hX hc
  go_enter Tryz.func79, Tryz.ntmps79
  go_wp2
  obtain ⟨W0, e0⟩ : ∃ W0, w.alloc (.cells #[.int .u64 a0, .int .u64 a1, .int .u64 a2, .int .u64 a3] 24) = W0 := ⟨_, rfl⟩
  rw [e0] at B1 HC ⊢
  have z0 : w.heap.size < W0.heap.size := World.block_lt_of_cell? W0 _ (HC.out 0 (by omega))
  clear e0
  go_loopw [3, 4] (fun s3 i wr => ∃ k : Nat, k ≤ 32 ∧ i = .int .i64 k ∧ wr.ownsRow W0.heap.size 3 1 s3 k (intsD (dig X) k) ∧ Below W0.heap.size W0 wr) (fun _ i _ => 32 - (intOf i).toNat)
  case atStart => exact ⟨0, by omega, rfl, World.ownsRow_nil _ _ _ _, Below.refl _ _⟩
  case round =>
    obtain ⟨k, hk, rfl, hown, hB⟩ := hrel
    have HOW : Hid _ := hown
    have HB : Hid _ := hB
    have b0 := hB.size
    by_cases hk5 : k < 32
    · have kI : (k : Int) < 32 := by omega
      obtain ⟨q, eq⟩ : ∃ q : Nat, q = k / 8 := ⟨_, rfl⟩
      obtain ⟨r, er⟩ : ∃ r : Nat, r = k % 8 := ⟨_, rfl⟩
      have t1 : Int.tdiv (k : Int) 8 = (q : Int) := by rw [Int.tdiv_eq_ediv_of_nonneg (by omega)]; omega
      have t2 : Int.tmod (k : Int) 8 = (r : Int) := by rw [Int.tmod_eq_emod_of_nonneg (by omega)]; omega
      have w1 : IntKind.i64.wrap (q : Int) = (q : Int) := by rw [IntKind.wrap_i64]; omega
      have w2 : IntKind.i64.wrap (r : Int) = (r : Int) := by rw [IntKind.wrap_i64]; omega
      have qI : (q : Int) < 4 := by omega
      have r8 : r < 8 := by omega
      have cell := (hB.cell (p := ⟨w.heap.size, q, none⟩) z0).trans (HC.out q (by omega))
      have hu := limb_u64 HA.out.u0 HA.out.u1 HA.out.u2 HA.out.u3 q
      have hd := dig_limb HA.out.u0 HA.out.u1 HA.out.u2 HA.out.u3 X HX.out k hk5
      rw [← eq, ← er] at hd
      generalize limb a0 a1 a2 a3 q = z at cell hu hd
      obtain ⟨zn, rfl⟩ : ∃ zn : Nat, z = (zn : Int) := ⟨z.toNat, by have := hu.1; omega⟩
      have zb : zn < 18446744073709551616 := by have := hu.2; unfold Bd at this; omega
      rw [Int.toNat_natCast] at hd
      have HD : Hid _ := hd
      clear hd hu eq er hown hB
      go_wp2
      go_loop [5, 6] (fun c j => ∃ m : Nat, m ≤ r ∧ j = .int .i64 m ∧ c = .int .u64 ((zn / 256 ^ m : Nat) : Int)) (fun _ j => r - (intOf j).toNat)
      case atStart => exact ⟨0, by omega, rfl, by rw [Nat.pow_zero, Nat.div_one]⟩
      case round =>
        obtain ⟨m, hm, rfl, rfl⟩ := hrel
        by_cases hmr : m < r
        · have mI : (m : Int) < (r : Int) := by omega
          have m8 : (m : Int) < 8 := by omega
          have e1 : zn / 256 ^ (m + 1) = zn / 256 ^ m / 256 := by rw [Nat.pow_succ, Nat.div_div_eq_div_mul]
          have l1 : zn / 256 ^ m ≤ zn := Nat.div_le_self _ _
          have E1 : Hid _ := e1
          generalize zn / 256 ^ m = u at e1 l1 E1
          have t3 : Int.tdiv (u : Int) 256 = ((u / 256 : Nat) : Int) := by rw [Int.tdiv_eq_ediv_of_nonneg (by omega)]; omega
          have w3 : IntKind.u64.wrap ((u / 256 : Nat) : Int) = ((u / 256 : Nat) : Int) := by rw [IntKind.wrap_u64]; omega
          clear e1
          go_wp2
          go_round
          case rel => exact ⟨m + 1, by omega, by go_num, by rw [E1.out]; first | rfl | (congr 1; omega)⟩
          case measure => simp [intOf]; omega
        · obtain rfl : m = r := by omega
          have mI : ¬ ((m : Int) < (m : Int)) := by omega
          have l1 : zn / 256 ^ m ≤ zn := Nat.div_le_self _ _
          generalize zn / 256 ^ m = u at HD l1
          obtain ⟨y, ey⟩ : ∃ y : Nat, y = u % 256 := ⟨_, rfl⟩
          have t3 : Int.tmod (u : Int) 256 = (y : Int) := by rw [Int.tmod_eq_emod_of_nonneg (by omega)]; omega
          have t4 : (u : Int) % 256 = (y : Int) := by omega
          have w3 : IntKind.u64.wrap (y : Int) = (y : Int) := by rw [IntKind.wrap_u64]; omega
          have w4 : IntKind.i64.wrap (y : Int) = (y : Int) := by rw [IntKind.wrap_i64]; omega
          have EY : Hid (y = dig X k) := by have h := HD.out; unfold Hid; rw [← h, ey]
          clear ey HD
          go_wp2_with (at_builtin; refine wpList_append_own _ rfl _ _ 61 rfl W0.heap.size 3 i0 (.int .i64 0) 1 8 Tryz.underlying61 hi hz0 hz1 hz2 rfl (by decide) _ _ _ rfl (World.ownsRow.alloc HOW.out _) ⟨wr.heap.size, 0, none⟩ 1 1 [.int .i64 (y : Int)] rfl rfl (fun j u hj => (by have hj0 : j = 0 := (by have := (List.getElem?_eq_some_iff.1 hj).1; simpa using this); subst hj0; simp at hj; subst hj; (first | (simp [Addr.add]; done) | (simp [Addr.add]; first | exact t4 | omega)))) (fun u hu => (by rw [List.mem_singleton.1 hu]; rfl)) (by unfold maxLen; omega) (by omega) (by simp; omega) ?_; intro v' w1 hown' hgrow _)
          have R : Hid _ := of_step EY.out HOW.out HB.out hown' hgrow
          clear hown' hgrow
          go_wp2
          go_roundw
          case rel => exact ⟨k + 1, by omega, by go_num, R.out⟩
          case measure => simp [intOf]; omega
    · obtain rfl : k = 32 := by omega
      clear hown hB
      go_wp2
      go_ret
      exact ⟨_, rfl, RowAt.own HOW.out (dig_lt X) (fun i hi => by rw [dig, if_neg (by omega)]) (by omega), Below.trans B1.out (HB.out.mono (by omega))⟩
end Go.Proofs.YtpadpmkfhljiiaaGreat
