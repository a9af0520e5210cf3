/- The comparisons, their answers named. -/
import Derived.Test.YtpadpmkfhljiiaaGreatMp1
import Derived.Laws.MathBits
import Derived.Deep.DeepCutAuto
import Derived.Deep.QuietTactic
import Derived.BigQuiet
import Derived.Deep.MidRow
namespace Go.Proofs.YtpadpmkfhljiiaaGreat
open Go.RowKit
theorem lt_is {x y : Int} (a0 a1 a2 a3 b0 b1 b2 b3 : Int) (w : World) (ha : IsW x a0 a1 a2 a3) (hb : IsW y b0 b1 b2 b3) (r : Bool) (h : decide (x % MM < y % MM) = r) :
    Calls Tryz.prog 96 #[.agg #[.int .u64 a0, .int .u64 a1, .int .u64 a2, .int .u64 a3], .agg #[.int .u64 b0, .int .u64 b1, .int .u64 b2, .int .u64 b3]] w fun e w' => e = .returned (.bool r) ∧ Below w.heap.size w w' := by
  rw [← h]; exact lt_any x y a0 a1 a2 a3 b0 b1 b2 b3 w ha hb
theorem gt_is {x y : Int} (a0 a1 a2 a3 b0 b1 b2 b3 : Int) (w : World) (ha : IsW x a0 a1 a2 a3) (hb : IsW y b0 b1 b2 b3) (r : Bool) (h : decide (y % MM < x % MM) = r) :
    Calls Tryz.prog 99 #[.agg #[.int .u64 a0, .int .u64 a1, .int .u64 a2, .int .u64 a3], .agg #[.int .u64 b0, .int .u64 b1, .int .u64 b2, .int .u64 b3]] w fun e w' => e = .returned (.bool r) ∧ Below w.heap.size w w' := by
  rw [← h]; exact gt_any x y a0 a1 a2 a3 b0 b1 b2 b3 w ha hb
theorem eq_is {x y : Int} (a0 a1 a2 a3 b0 b1 b2 b3 : Int) (w : World) (ha : IsW x a0 a1 a2 a3) (hb : IsW y b0 b1 b2 b3) (r : Bool) (h : decide (x % MM = y % MM) = r) :
    Calls Tryz.prog 153 #[.agg #[.int .u64 a0, .int .u64 a1, .int .u64 a2, .int .u64 a3], .agg #[.int .u64 b0, .int .u64 b1, .int .u64 b2, .int .u64 b3]] w fun e w' => e = .returned (.bool r) ∧ Below w.heap.size w w' := by
  rw [← h]; exact eq_any x y a0 a1 a2 a3 b0 b1 b2 b3 w ha hb
theorem isZero_is {x : Int} (a0 a1 a2 a3 : Int) (w : World) (ha : IsW x a0 a1 a2 a3) (r : Bool) (h : decide (x % MM = 0) = r) :
    Calls Tryz.prog 155 #[.agg #[.int .u64 a0, .int .u64 a1, .int .u64 a2, .int .u64 a3]] w fun e w' => e = .returned (.bool r) ∧ Below w.heap.size w w' := by
  rw [← h]; exact isZero_any x a0 a1 a2 a3 w ha
theorem slt_is {x y : Int} (a0 a1 a2 a3 b0 b1 b2 b3 : Int) (w : World) (ha : IsW x a0 a1 a2 a3) (hb : IsW y b0 b1 b2 b3) (r : Bool) (h : decide ((x + MM / 2) % MM < (y + MM / 2) % MM) = r) :
    Calls Tryz.prog 26 #[.agg #[.int .u64 a0, .int .u64 a1, .int .u64 a2, .int .u64 a3], .agg #[.int .u64 b0, .int .u64 b1, .int .u64 b2, .int .u64 b3]] w fun e w' => e = .returned (.bool r) ∧ Below w.heap.size w w' := by
  rw [← h]; exact slt_any x y a0 a1 a2 a3 b0 b1 b2 b3 w ha hb
theorem sgt_is {x y : Int} (a0 a1 a2 a3 b0 b1 b2 b3 : Int) (w : World) (ha : IsW x a0 a1 a2 a3) (hb : IsW y b0 b1 b2 b3) (r : Bool) (h : decide ((y + MM / 2) % MM < (x + MM / 2) % MM) = r) :
    Calls Tryz.prog 28 #[.agg #[.int .u64 a0, .int .u64 a1, .int .u64 a2, .int .u64 a3], .agg #[.int .u64 b0, .int .u64 b1, .int .u64 b2, .int .u64 b3]] w fun e w' => e = .returned (.bool r) ∧ Below w.heap.size w w' := by
  rw [← h]; exact sgt_any x y a0 a1 a2 a3 b0 b1 b2 b3 w ha hb
end Go.Proofs.YtpadpmkfhljiiaaGreat
/- Products: bits.Mul64, mulAdd, product, Mul: for all numbers. -/
namespace Go.Proofs.YtpadpmkfhljiiaaGreat
open Go.RowKit

theorem low32 (t : Int) : bits .and .u64 (t % 18446744073709551616) 4294967295 = t % 18446744073709551616 % 4294967296 :=
  and_low32 _ (Int.emod_nonneg _ (by omega)) (Int.emod_lt_of_pos _ (by omega))
set_option maxHeartbeats 1000000 in
theorem mul64_int (x y : Int) (hx0 : 0 ≤ x) (hx : x < 18446744073709551616) (hy0 : 0 ≤ y) (hy : y < 18446744073709551616) (w : World) :
    Calls Tryz.prog 175 #[.int .u64 x, .int .u64 y] w fun e w' => e = .returned (.tuple #[.int .u64 (x * y / 18446744073709551616), .int .u64 (x * y % 18446744073709551616)]) ∧ w' = w := by
  have HK : Hid _ := mul64_arith x y hx0 hx hy0 hy
  go_enter Tryz.func175, Tryz.ntmps175
  go_wp2
  simp only [and_low32 x hx0 hx, and_low32 y hy0 hy, IntKind.wrap_u64, low32]
  rw [HK.out]
  go_ret2
  exact ⟨rfl, rfl⟩
theorem mul64_ex (x y : Int) (hx : U64 x) (hy : U64 y) : ∃ h l : Int, (∀ w : World, Calls Tryz.prog 175 #[.int .u64 x, .int .u64 y] w fun e w' => e = .returned (.tuple #[.int .u64 h, .int .u64 l]) ∧ w' = w) ∧ U64 h ∧ U64 l ∧ Hid (x * y = h * Bd + l) := by
  have hx' := hx.2
  have hy' := hy.2
  unfold Bd at hx' hy'
  have h0 : 0 ≤ x * y := Int.mul_nonneg hx.1 hy.1
  have h1 : x * y ≤ 18446744073709551615 * 18446744073709551615 := Int.mul_le_mul (by omega) (by omega) hy.1 (by omega)
  refine ⟨_, _, fun w => mul64_int x y hx.1 hx' hy.1 hy' w, ?_, ?_, ?_⟩
  all_goals simp only [U64, Hid, Bd]
  all_goals generalize x * y = p at *
  all_goals omega
set_option maxHeartbeats 1000000 in
theorem mulAdd_ex (a b c : Int) (ha : U64 a) (hb : U64 b) (hc : U64 c) : ∃ h l : Int, (∀ w : World, Calls Tryz.prog 125 #[.int .u64 a, .int .u64 b, .int .u64 c] w fun e w' => e = .returned (.tuple #[.int .u64 h, .int .u64 l]) ∧ w' = w) ∧ U64 h ∧ U64 l ∧ Hid (a * b + c = h * Bd + l) := by
  obtain ⟨h, l, hcall, hh, hl, hm⟩ := mul64_ex a b ha hb
  obtain ⟨s, d, r, es, us, l0, l1⟩ := add64_ex l c 0 hl hc (by omega) (by omega)
  have hbd : h + d < 18446744073709551616 := by
    have e1 := hm.out; have e2 := es.out
    have h1 : a * b ≤ 18446744073709551615 * 18446744073709551615 := by
      unfold U64 Bd at ha hb; exact Int.mul_le_mul (by omega) (by omega) hb.1 (by omega)
    unfold U64 Bd at *; omega
  have hbd0 : 0 ≤ h + d := by have := hh.1; omega
  refine ⟨h + d, s, fun w => ?_, ⟨hbd0, hbd⟩, us, ?_⟩
  · have H := hcall w
    clear hcall
    go_enter Tryz.func125, Tryz.ntmps125
    go_wp2_with fail
    refine H.mono ?_
    rintro e w1 ⟨rfl, rfl⟩
    clear H
    go_wp2
    go_ret2
    exact ⟨rfl, rfl⟩
  · have e1 := hm.out; have e2 := es.out
    unfold Hid Bd at *
    rw [e1]; omega

/-- one step of a product: t + a b + c, its low part and what is carried -/
theorem pst (a b c t : Int) (ha : U64 a) (hb : U64 b) (hc : U64 c) (ht : U64 t) : ∃ h l s d : Int, (∀ w : World, Calls Tryz.prog 125 #[.int .u64 a, .int .u64 b, .int .u64 c] w fun e w' => e = .returned (.tuple #[.int .u64 h, .int .u64 l]) ∧ w' = w) ∧
    (∀ W : World, (callFunc 122 #[.int .u64 t, .int .u64 l, .int .u64 0]).run Tryz.prog W = .ok (.value (.tuple #[.int .u64 s, .int .u64 d])) W) ∧ 0 ≤ h + d ∧ h + d < 18446744073709551616 ∧ U64 s ∧ U64 (h + d) ∧ Hid (t + a * b + c = (h + d) * Bd + s) := by
  obtain ⟨h, l, hcall, hh, hl, hm⟩ := mulAdd_ex a b c ha hb hc
  obtain ⟨s, d, r, es, us, l0, l1⟩ := add64_ex t l 0 ht hl (by omega) (by omega)
  have hbd : h + d < 18446744073709551616 := by
    have e1 := hm.out; have e2 := es.out
    have h1 : a * b ≤ 18446744073709551615 * 18446744073709551615 := by
      unfold U64 Bd at ha hb; exact Int.mul_le_mul (by omega) (by omega) hb.1 (by omega)
    unfold U64 Bd at *; omega
  have hbd0 : 0 ≤ h + d := by have := hh.1; omega
  refine ⟨h, l, s, d, hcall, r, hbd0, hbd, us, ⟨hbd0, hbd⟩, ?_⟩
  have e1 := hm.out; have e2 := es.out
  unfold Hid Bd at *
  have : (h + d) * 18446744073709551616 = h * 18446744073709551616 + d * 18446744073709551616 := Int.add_mul _ _ _
  omega
end Go.Proofs.YtpadpmkfhljiiaaGreat
/- The plain product of two words, its eight parts; and Mul. -/
namespace Go.Proofs.YtpadpmkfhljiiaaGreat
open Go.RowKit

theorem prow {a b0 b1 b2 b3 t0 t1 t2 t3 s0 s1 s2 s3 c1 c2 c3 c4 : Int} (e0 : t0 + a * b0 + 0 = c1 * Bd + s0) (e1 : t1 + a * b1 + c1 = c2 * Bd + s1) (e2 : t2 + a * b2 + c2 = c3 * Bd + s2) (e3 : t3 + a * b3 + c3 = c4 * Bd + s3) :
    V t0 t1 t2 t3 + a * V b0 b1 b2 b3 = V s0 s1 s2 s3 + MM * c4 := by
  have h : a * V b0 b1 b2 b3 = a * b0 + Bd * (a * b1) + Bd * (Bd * (a * b2)) + Bd * (Bd * (Bd * (a * b3))) := by unfold V; grind
  rw [h]
  generalize a * b0 = p0 at *; generalize a * b1 = p1 at *; generalize a * b2 = p2 at *; generalize a * b3 = p3 at *
  unfold V Bd MM at *; omega
/-- a number of eight parts -/
def V8 (p0 p1 p2 p3 p4 p5 p6 p7 : Int) : Int := V p0 p1 p2 p3 + MM * V p4 p5 p6 p7
theorem prod4 {a0 a1 a2 a3 v r0 r1 r2 r3 r4 r5 r6 r7 x1 x2 x3 x4 y2 y3 y4 y5 z3 z4 z5 z6 : Int}
    (h0 : V 0 0 0 0 + a0 * v = V r0 x1 x2 x3 + MM * x4) (h1 : V x1 x2 x3 x4 + a1 * v = V r1 y2 y3 y4 + MM * y5) (h2 : V y2 y3 y4 y5 + a2 * v = V r2 z3 z4 z5 + MM * z6) (h3 : V z3 z4 z5 z6 + a3 * v = V r3 r4 r5 r6 + MM * r7) :
    V a0 a1 a2 a3 * v = V8 r0 r1 r2 r3 r4 r5 r6 r7 := by
  have h : V a0 a1 a2 a3 * v = a0 * v + Bd * (a1 * v) + Bd * (Bd * (a2 * v)) + Bd * (Bd * (Bd * (a3 * v))) := by unfold V; grind
  rw [h]
  generalize a0 * v = p0 at *; generalize a1 * v = p1 at *; generalize a2 * v = p2 at *; generalize a3 * v = p3 at *
  unfold V8 V Bd MM at *; omega

set_option maxHeartbeats 4000000 in
set_option maxRecDepth 100000 in
theorem product_any (a0 a1 a2 a3 b0 b1 b2 b3 : Int) (w : World) (ha0 : U64 a0) (ha1 : U64 a1) (ha2 : U64 a2) (ha3 : U64 a3) (hb0 : U64 b0) (hb1 : U64 b1) (hb2 : U64 b2) (hb3 : U64 b3) :
    Calls Tryz.prog 84 #[.agg #[.int .u64 a0, .int .u64 a1, .int .u64 a2, .int .u64 a3], .agg #[.int .u64 b0, .int .u64 b1, .int .u64 b2, .int .u64 b3]] w fun e w' => ∃ p0 p1 p2 p3 p4 p5 p6 p7 : Int, e = .returned (.agg #[.int .u64 p0, .int .u64 p1, .int .u64 p2, .int .u64 p3, .int .u64 p4, .int .u64 p5, .int .u64 p6, .int .u64 p7]) ∧
      (U64 p0 ∧ U64 p1 ∧ U64 p2 ∧ U64 p3 ∧ U64 p4 ∧ U64 p5 ∧ U64 p6 ∧ U64 p7) ∧ V a0 a1 a2 a3 * V b0 b1 b2 b3 = V8 p0 p1 p2 p3 p4 p5 p6 p7 ∧ Below w.heap.size w w' := by
  obtain ⟨h00, l00, s00, d00, m00, r00, x00, y00, u_s00, c00, e00⟩ := pst a0 b0 0 0 ha0 hb0 (u64_lit 0 (by omega) (by omega)) (u64_lit 0 (by omega) (by omega))
  obtain ⟨h01, l01, s01, d01, m01, r01, x01, y01, u_s01, c01, e01⟩ := pst a0 b1 (h00 + d00) 0 ha0 hb1 (c00) (u64_lit 0 (by omega) (by omega))
  obtain ⟨h02, l02, s02, d02, m02, r02, x02, y02, u_s02, c02, e02⟩ := pst a0 b2 (h01 + d01) 0 ha0 hb2 (c01) (u64_lit 0 (by omega) (by omega))
  obtain ⟨h03, l03, s03, d03, m03, r03, x03, y03, u_s03, c03, e03⟩ := pst a0 b3 (h02 + d02) 0 ha0 hb3 (c02) (u64_lit 0 (by omega) (by omega))
  obtain ⟨h10, l10, s10, d10, m10, r10, x10, y10, u_s10, c10, e10⟩ := pst a1 b0 0 s01 ha1 hb0 (u64_lit 0 (by omega) (by omega)) u_s01
  obtain ⟨h11, l11, s11, d11, m11, r11, x11, y11, u_s11, c11, e11⟩ := pst a1 b1 (h10 + d10) s02 ha1 hb1 (c10) u_s02
  obtain ⟨h12, l12, s12, d12, m12, r12, x12, y12, u_s12, c12, e12⟩ := pst a1 b2 (h11 + d11) s03 ha1 hb2 (c11) u_s03
  obtain ⟨h13, l13, s13, d13, m13, r13, x13, y13, u_s13, c13, e13⟩ := pst a1 b3 (h12 + d12) (h03 + d03) ha1 hb3 (c12) c03
  obtain ⟨h20, l20, s20, d20, m20, r20, x20, y20, u_s20, c20, e20⟩ := pst a2 b0 0 s11 ha2 hb0 (u64_lit 0 (by omega) (by omega)) u_s11
  obtain ⟨h21, l21, s21, d21, m21, r21, x21, y21, u_s21, c21, e21⟩ := pst a2 b1 (h20 + d20) s12 ha2 hb1 (c20) u_s12
  obtain ⟨h22, l22, s22, d22, m22, r22, x22, y22, u_s22, c22, e22⟩ := pst a2 b2 (h21 + d21) s13 ha2 hb2 (c21) u_s13
  obtain ⟨h23, l23, s23, d23, m23, r23, x23, y23, u_s23, c23, e23⟩ := pst a2 b3 (h22 + d22) (h13 + d13) ha2 hb3 (c22) c13
  obtain ⟨h30, l30, s30, d30, m30, r30, x30, y30, u_s30, c30, e30⟩ := pst a3 b0 0 s21 ha3 hb0 (u64_lit 0 (by omega) (by omega)) u_s21
  obtain ⟨h31, l31, s31, d31, m31, r31, x31, y31, u_s31, c31, e31⟩ := pst a3 b1 (h30 + d30) s22 ha3 hb1 (c30) u_s22
  obtain ⟨h32, l32, s32, d32, m32, r32, x32, y32, u_s32, c32, e32⟩ := pst a3 b2 (h31 + d31) s23 ha3 hb2 (c31) u_s23
  obtain ⟨h33, l33, s33, d33, m33, r33, x33, y33, u_s33, c33, e33⟩ := pst a3 b3 (h32 + d32) (h23 + d23) ha3 hb3 (c32) c23
  have E0 := prow e00.out e01.out e02.out e03.out
  have E1 := prow e10.out e11.out e12.out e13.out
  have E2 := prow e20.out e21.out e22.out e23.out
  have E3 := prow e30.out e31.out e32.out e33.out
  have EE := prod4 E0 E1 E2 E3
  have HE : Hid (V a0 a1 a2 a3 * V b0 b1 b2 b3 = V8 s00 s10 s20 s30 s31 s32 s33 (h33 + d33)) := EE
  clear EE E0 E1 E2 E3 e00 e01 e02 e03 e10 e11 e12 e13 e20 e21 e22 e23 e30 e31 e32 e33
  have M00 : Hid _ := m00
  have M01 : Hid _ := m01
  have M02 : Hid _ := m02
  have M03 : Hid _ := m03
  have M10 : Hid _ := m10
  have M11 : Hid _ := m11
  have M12 : Hid _ := m12
  have M13 : Hid _ := m13
  have M20 : Hid _ := m20
  have M21 : Hid _ := m21
  have M22 : Hid _ := m22
  have M23 : Hid _ := m23
  have M30 : Hid _ := m30
  have M31 : Hid _ := m31
  have M32 : Hid _ := m32
  have M33 : Hid _ := m33
  clear m00 m01 m02 m03 m10 m11 m12 m13 m20 m21 m22 m23 m30 m31 m32 m33
  go_enter Tryz.func84, Tryz.ntmps84
  go_wp2
  refine wp_loop_rounds 5 ?_
  rw [rounds_succ]
  go_wp2
  refine wp_loop_rounds 5 ?_
  rw [rounds_succ]
  go_wp2
  go_region_held3 (fun w' => w'.cell? ⟨w.heap.size, 0, none⟩ = some (.int .u64 a0) ∧ w'.cell? ⟨w.heap.size + 1, 0, none⟩ = some (.int .u64 b0)) (refine ⟨?_, ?_⟩ <;> go_simp) ((go_at_call 125; refine (M00.out _).mono ?_; rintro e w' ⟨rfl, rfl⟩))
  go_wp2
  rw [rounds_succ]
  go_wp2
  go_region_held3 (fun w' => w'.cell? ⟨w.heap.size, 0, none⟩ = some (.int .u64 a0) ∧ w'.cell? ⟨w.heap.size + 1, 1, none⟩ = some (.int .u64 b1)) (refine ⟨?_, ?_⟩ <;> go_simp) ((go_at_call 125; refine (M01.out _).mono ?_; rintro e w' ⟨rfl, rfl⟩))
  go_wp2
  rw [rounds_succ]
  go_wp2
  go_region_held3 (fun w' => w'.cell? ⟨w.heap.size, 0, none⟩ = some (.int .u64 a0) ∧ w'.cell? ⟨w.heap.size + 1, 2, none⟩ = some (.int .u64 b2)) (refine ⟨?_, ?_⟩ <;> go_simp) ((go_at_call 125; refine (M02.out _).mono ?_; rintro e w' ⟨rfl, rfl⟩))
  go_wp2
  rw [rounds_succ]
  go_wp2
  go_region_held3 (fun w' => w'.cell? ⟨w.heap.size, 0, none⟩ = some (.int .u64 a0) ∧ w'.cell? ⟨w.heap.size + 1, 3, none⟩ = some (.int .u64 b3)) (refine ⟨?_, ?_⟩ <;> go_simp) ((go_at_call 125; refine (M03.out _).mono ?_; rintro e w' ⟨rfl, rfl⟩))
  go_wp2
  rw [rounds_succ]
  go_wp2
  rw [rounds_succ]
  go_wp2
  refine wp_loop_rounds 5 ?_
  rw [rounds_succ]
  go_wp2
  go_region_held3 (fun w' => w'.cell? ⟨w.heap.size, 1, none⟩ = some (.int .u64 a1) ∧ w'.cell? ⟨w.heap.size + 1, 0, none⟩ = some (.int .u64 b0)) (refine ⟨?_, ?_⟩ <;> go_simp) ((go_at_call 125; refine (M10.out _).mono ?_; rintro e w' ⟨rfl, rfl⟩))
  go_wp2
  rw [rounds_succ]
  go_wp2
  go_region_held3 (fun w' => w'.cell? ⟨w.heap.size, 1, none⟩ = some (.int .u64 a1) ∧ w'.cell? ⟨w.heap.size + 1, 1, none⟩ = some (.int .u64 b1)) (refine ⟨?_, ?_⟩ <;> go_simp) ((go_at_call 125; refine (M11.out _).mono ?_; rintro e w' ⟨rfl, rfl⟩))
  go_wp2
  rw [rounds_succ]
  go_wp2
  go_region_held3 (fun w' => w'.cell? ⟨w.heap.size, 1, none⟩ = some (.int .u64 a1) ∧ w'.cell? ⟨w.heap.size + 1, 2, none⟩ = some (.int .u64 b2)) (refine ⟨?_, ?_⟩ <;> go_simp) ((go_at_call 125; refine (M12.out _).mono ?_; rintro e w' ⟨rfl, rfl⟩))
  go_wp2
  rw [rounds_succ]
  go_wp2
  go_region_held3 (fun w' => w'.cell? ⟨w.heap.size, 1, none⟩ = some (.int .u64 a1) ∧ w'.cell? ⟨w.heap.size + 1, 3, none⟩ = some (.int .u64 b3)) (refine ⟨?_, ?_⟩ <;> go_simp) ((go_at_call 125; refine (M13.out _).mono ?_; rintro e w' ⟨rfl, rfl⟩))
  go_wp2
  rw [rounds_succ]
  go_wp2
  rw [rounds_succ]
  go_wp2
  refine wp_loop_rounds 5 ?_
  rw [rounds_succ]
  go_wp2
  go_region_held3 (fun w' => w'.cell? ⟨w.heap.size, 2, none⟩ = some (.int .u64 a2) ∧ w'.cell? ⟨w.heap.size + 1, 0, none⟩ = some (.int .u64 b0)) (refine ⟨?_, ?_⟩ <;> go_simp) ((go_at_call 125; refine (M20.out _).mono ?_; rintro e w' ⟨rfl, rfl⟩))
  go_wp2
  rw [rounds_succ]
  go_wp2
  go_region_held3 (fun w' => w'.cell? ⟨w.heap.size, 2, none⟩ = some (.int .u64 a2) ∧ w'.cell? ⟨w.heap.size + 1, 1, none⟩ = some (.int .u64 b1)) (refine ⟨?_, ?_⟩ <;> go_simp) ((go_at_call 125; refine (M21.out _).mono ?_; rintro e w' ⟨rfl, rfl⟩))
  go_wp2
  rw [rounds_succ]
  go_wp2
  go_region_held3 (fun w' => w'.cell? ⟨w.heap.size, 2, none⟩ = some (.int .u64 a2) ∧ w'.cell? ⟨w.heap.size + 1, 2, none⟩ = some (.int .u64 b2)) (refine ⟨?_, ?_⟩ <;> go_simp) ((go_at_call 125; refine (M22.out _).mono ?_; rintro e w' ⟨rfl, rfl⟩))
  go_wp2
  rw [rounds_succ]
  go_wp2
  go_region_held3 (fun w' => w'.cell? ⟨w.heap.size, 2, none⟩ = some (.int .u64 a2) ∧ w'.cell? ⟨w.heap.size + 1, 3, none⟩ = some (.int .u64 b3)) (refine ⟨?_, ?_⟩ <;> go_simp) ((go_at_call 125; refine (M23.out _).mono ?_; rintro e w' ⟨rfl, rfl⟩))
  go_wp2
  rw [rounds_succ]
  go_wp2
  rw [rounds_succ]
  go_wp2
  refine wp_loop_rounds 5 ?_
  rw [rounds_succ]
  go_wp2
  go_region_held3 (fun w' => w'.cell? ⟨w.heap.size, 3, none⟩ = some (.int .u64 a3) ∧ w'.cell? ⟨w.heap.size + 1, 0, none⟩ = some (.int .u64 b0)) (refine ⟨?_, ?_⟩ <;> go_simp) ((go_at_call 125; refine (M30.out _).mono ?_; rintro e w' ⟨rfl, rfl⟩))
  go_wp2
  rw [rounds_succ]
  go_wp2
  go_region_held3 (fun w' => w'.cell? ⟨w.heap.size, 3, none⟩ = some (.int .u64 a3) ∧ w'.cell? ⟨w.heap.size + 1, 1, none⟩ = some (.int .u64 b1)) (refine ⟨?_, ?_⟩ <;> go_simp) ((go_at_call 125; refine (M31.out _).mono ?_; rintro e w' ⟨rfl, rfl⟩))
  go_wp2
  rw [rounds_succ]
  go_wp2
  go_region_held3 (fun w' => w'.cell? ⟨w.heap.size, 3, none⟩ = some (.int .u64 a3) ∧ w'.cell? ⟨w.heap.size + 1, 2, none⟩ = some (.int .u64 b2)) (refine ⟨?_, ?_⟩ <;> go_simp) ((go_at_call 125; refine (M32.out _).mono ?_; rintro e w' ⟨rfl, rfl⟩))
  go_wp2
  rw [rounds_succ]
  go_wp2
  go_region_held3 (fun w' => w'.cell? ⟨w.heap.size, 3, none⟩ = some (.int .u64 a3) ∧ w'.cell? ⟨w.heap.size + 1, 3, none⟩ = some (.int .u64 b3)) (refine ⟨?_, ?_⟩ <;> go_simp) ((go_at_call 125; refine (M33.out _).mono ?_; rintro e w' ⟨rfl, rfl⟩))
  go_wp2
  rw [rounds_succ]
  go_wp2
  rw [rounds_succ]
  go_wp2
  exact bodyPost_ret (v := .agg #[.int .u64 (s00), .int .u64 (s10), .int .u64 (s20), .int .u64 (s30), .int .u64 (s31), .int .u64 (s32), .int .u64 (s33), .int .u64 (h33 + d33)]) (by simp [results, Tryz.results84, go_sem]) rfl
    ⟨_, _, _, _, _, _, _, _, rfl, ⟨u_s00, u_s10, u_s20, u_s30, u_s31, u_s32, u_s33, c33⟩, HE.out, by repeat' (first | with_reducible exact Below.refl _ _ | with_reducible exact Below.refl _ _ | with_reducible refine Below.drew ?_ | with_reducible refine bdrewN ?_ _ | with_reducible refine Below.alloc ?_ ?_ _ | with_reducible refine Below.setCell ?_ ?_ _ | omega | (simp; done) | (simp; omega))⟩

end Go.Proofs.YtpadpmkfhljiiaaGreat
/- Mul of any two words. -/
namespace Go.Proofs.YtpadpmkfhljiiaaGreat
open Go.RowKit
set_option maxHeartbeats 400000 in
theorem low_any (p0 p1 p2 p3 p4 p5 p6 p7 : Int) (w : World) :
    Calls Tryz.prog 83 #[.agg #[.int .u64 p0, .int .u64 p1, .int .u64 p2, .int .u64 p3, .int .u64 p4, .int .u64 p5, .int .u64 p6, .int .u64 p7]] w fun e w' => e = .returned (.agg #[.int .u64 p0, .int .u64 p1, .int .u64 p2, .int .u64 p3]) ∧ Below w.heap.size w w' := by
  go_enter Tryz.func83, Tryz.ntmps83
  go_wp2
  first
    | exact bodyPost_ret (v := .agg #[.int .u64 p0, .int .u64 p1, .int .u64 p2, .int .u64 p3]) (by simp [results, Tryz.results83, go_sem]) rfl ⟨rfl, by repeat' (first | with_reducible exact Below.refl _ _ | with_reducible exact Below.refl _ _ | with_reducible refine Below.drew ?_ | with_reducible refine bdrewN ?_ _ | with_reducible refine Below.alloc ?_ ?_ _ | with_reducible refine Below.setCell ?_ ?_ _ | omega | (simp; done) | (simp; omega))⟩
    | (go_quiet (fail); go_wp2; exact bodyPost_ret (v := .agg #[.int .u64 p0, .int .u64 p1, .int .u64 p2, .int .u64 p3]) (by simp [results, Tryz.results83, go_sem]) rfl ⟨rfl, by repeat' (first | with_reducible exact Below.refl _ _ | with_reducible exact Below.refl _ _ | with_reducible refine Below.drew ?_ | with_reducible refine bdrewN ?_ _ | with_reducible refine Below.alloc ?_ ?_ _ | with_reducible refine Below.setCell ?_ ?_ _ | omega | (simp; done) | (simp; omega))⟩)
    | (go_region; go_wp2; exact bodyPost_ret (v := .agg #[.int .u64 p0, .int .u64 p1, .int .u64 p2, .int .u64 p3]) (by simp [results, Tryz.results83, go_sem]) rfl ⟨rfl, by repeat' (first | with_reducible exact Below.refl _ _ | with_reducible exact Below.refl _ _ | with_reducible refine Below.drew ?_ | with_reducible refine bdrewN ?_ _ | with_reducible refine Below.alloc ?_ ?_ _ | with_reducible refine Below.setCell ?_ ?_ _ | omega | (simp; done) | (simp; omega))⟩)
set_option maxHeartbeats 400000 in
set_option maxRecDepth 100000 in
theorem mul_any (x y : Int) (a0 a1 a2 a3 b0 b1 b2 b3 : Int) (w : World) (ha : IsW x a0 a1 a2 a3) (hb : IsW y b0 b1 b2 b3) :
    Calls Tryz.prog 15 #[.agg #[.int .u64 a0, .int .u64 a1, .int .u64 a2, .int .u64 a3], .agg #[.int .u64 b0, .int .u64 b1, .int .u64 b2, .int .u64 b3]] w fun e w' => ∃ s0 s1 s2 s3 : Int, e = .returned (.agg #[.int .u64 s0, .int .u64 s1, .int .u64 s2, .int .u64 s3]) ∧ IsW (x * y) s0 s1 s2 s3 ∧ Below w.heap.size w w' := by
  go_enter Tryz.func15, Tryz.ntmps15
  go_wp2_with fail
  refine (product_any _ _ _ _ _ _ _ _ _ ha.u0 ha.u1 ha.u2 ha.u3 hb.u0 hb.u1 hb.u2 hb.u3).mono ?_
  rintro e w1 ⟨s0, s1, s2, s3, s4, s5, s6, s7, rfl, ⟨u0, u1, u2, u3, u4, u5, u6, u7⟩, hp, hB⟩
  have hs : IsW (x * y) s0 s1 s2 s3 := by
    refine ⟨⟨u0, u1, u2, u3⟩, ?_⟩
    rw [Int.mul_emod, ← ha.2, ← hb.2, hp, V8, Int.add_mul_emod_self_left, Int.emod_eq_of_lt (V_range u0 u1 u2 u3).1 (V_range u0 u1 u2 u3).2]
  clear hp u0 u1 u2 u3 u4 u5 u6 u7
  have zz : w.heap.size + 1 + 1 < w1.heap.size := by have := hB.size; simp at this; omega
  have kk0 : w1.cell? ⟨w.heap.size + 1 + 1, 0, none⟩ = some (.int .u64 0) := (hB.cell (p := ⟨w.heap.size + 1 + 1, 0, none⟩) (by first | omega | (simp; done) | (simp; omega))).trans (by go_simp)
  have kk1 : w1.cell? ⟨w.heap.size + 1 + 1, 1, none⟩ = some (.int .u64 0) := (hB.cell (p := ⟨w.heap.size + 1 + 1, 1, none⟩) (by first | omega | (simp; done) | (simp; omega))).trans (by go_simp)
  have kk2 : w1.cell? ⟨w.heap.size + 1 + 1, 2, none⟩ = some (.int .u64 0) := (hB.cell (p := ⟨w.heap.size + 1 + 1, 2, none⟩) (by first | omega | (simp; done) | (simp; omega))).trans (by go_simp)
  have kk3 : w1.cell? ⟨w.heap.size + 1 + 1, 3, none⟩ = some (.int .u64 0) := (hB.cell (p := ⟨w.heap.size + 1 + 1, 3, none⟩) (by first | omega | (simp; done) | (simp; omega))).trans (by go_simp)
  have ff0 : w1.frozen? ⟨w.heap.size + 1 + 1, 0, none⟩ = false := (hB.frozen (p := ⟨w.heap.size + 1 + 1, 0, none⟩) (by first | omega | (simp; done) | (simp; omega))).trans (by go_simp)
  have ff1 : w1.frozen? ⟨w.heap.size + 1 + 1, 1, none⟩ = false := (hB.frozen (p := ⟨w.heap.size + 1 + 1, 1, none⟩) (by first | omega | (simp; done) | (simp; omega))).trans (by go_simp)
  have ff2 : w1.frozen? ⟨w.heap.size + 1 + 1, 2, none⟩ = false := (hB.frozen (p := ⟨w.heap.size + 1 + 1, 2, none⟩) (by first | omega | (simp; done) | (simp; omega))).trans (by go_simp)
  have ff3 : w1.frozen? ⟨w.heap.size + 1 + 1, 3, none⟩ = false := (hB.frozen (p := ⟨w.heap.size + 1 + 1, 3, none⟩) (by first | omega | (simp; done) | (simp; omega))).trans (by go_simp)
  have B1 : Below w.heap.size w w1 := Below.trans (by repeat' (first | with_reducible exact Below.refl _ _ | with_reducible exact Below.refl _ _ | with_reducible refine Below.drew ?_ | with_reducible refine bdrewN ?_ _ | with_reducible refine Below.alloc ?_ ?_ _ | with_reducible refine Below.setCell ?_ ?_ _ | omega | (simp; done) | (simp; omega))) (hB.mono (by first | omega | (simp; done) | (simp; omega)))
  clear hB
  go_wp2_with fail
  refine (low_any _ _ _ _ _ _ _ _ _).mono ?_
  rintro e w2 ⟨rfl, hB⟩
  have zy : w.heap.size + 1 + 1 < w2.heap.size := by have := hB.size; omega
  have ll0 : w2.cell? ⟨w.heap.size + 1 + 1, 0, none⟩ = some (.int .u64 0) := (hB.cell (p := ⟨w.heap.size + 1 + 1, 0, none⟩) (by first | omega | (simp; done) | (simp; omega))).trans (by go_simp)
  have ll1 : w2.cell? ⟨w.heap.size + 1 + 1, 1, none⟩ = some (.int .u64 0) := (hB.cell (p := ⟨w.heap.size + 1 + 1, 1, none⟩) (by first | omega | (simp; done) | (simp; omega))).trans (by go_simp)
  have ll2 : w2.cell? ⟨w.heap.size + 1 + 1, 2, none⟩ = some (.int .u64 0) := (hB.cell (p := ⟨w.heap.size + 1 + 1, 2, none⟩) (by first | omega | (simp; done) | (simp; omega))).trans (by go_simp)
  have ll3 : w2.cell? ⟨w.heap.size + 1 + 1, 3, none⟩ = some (.int .u64 0) := (hB.cell (p := ⟨w.heap.size + 1 + 1, 3, none⟩) (by first | omega | (simp; done) | (simp; omega))).trans (by go_simp)
  have gg0 : w2.frozen? ⟨w.heap.size + 1 + 1, 0, none⟩ = false := (hB.frozen (p := ⟨w.heap.size + 1 + 1, 0, none⟩) (by first | omega | (simp; done) | (simp; omega))).trans (by go_simp)
  have gg1 : w2.frozen? ⟨w.heap.size + 1 + 1, 1, none⟩ = false := (hB.frozen (p := ⟨w.heap.size + 1 + 1, 1, none⟩) (by first | omega | (simp; done) | (simp; omega))).trans (by go_simp)
  have gg2 : w2.frozen? ⟨w.heap.size + 1 + 1, 2, none⟩ = false := (hB.frozen (p := ⟨w.heap.size + 1 + 1, 2, none⟩) (by first | omega | (simp; done) | (simp; omega))).trans (by go_simp)
  have gg3 : w2.frozen? ⟨w.heap.size + 1 + 1, 3, none⟩ = false := (hB.frozen (p := ⟨w.heap.size + 1 + 1, 3, none⟩) (by first | omega | (simp; done) | (simp; omega))).trans (by go_simp)
  have B2 : Below w.heap.size w w2 := Below.trans (by repeat' (first | with_reducible exact B1 | with_reducible exact Below.refl _ _ | with_reducible refine Below.drew ?_ | with_reducible refine bdrewN ?_ _ | with_reducible refine Below.alloc ?_ ?_ _ | with_reducible refine Below.setCell ?_ ?_ _ | omega | (simp; done) | (simp; omega))) (hB.mono (by first | omega | (simp; done) | (simp; omega)))
  clear hB kk0 kk1 kk2 kk3 ff0 ff1 ff2 ff3
  go_wp2
  exact bodyPost_ret (v := .agg #[.int .u64 s0, .int .u64 s1, .int .u64 s2, .int .u64 s3]) (by simp [results, Tryz.results15, go_sem, ll0, ll1, ll2, ll3]) rfl
    ⟨s0, s1, s2, s3, rfl, hs, by repeat' (first | with_reducible exact B2 | with_reducible exact Below.refl _ _ | with_reducible refine Below.drew ?_ | with_reducible refine bdrewN ?_ _ | with_reducible refine Below.alloc ?_ ?_ _ | with_reducible refine Below.setCell ?_ ?_ _ | omega | (simp; done) | (simp; omega))⟩
end Go.Proofs.YtpadpmkfhljiiaaGreat
/- Shifts by words: FromUint, below, signBits. -/
namespace Go.Proofs.YtpadpmkfhljiiaaGreat
open Go.RowKit
set_option maxHeartbeats 400000 in
theorem fromUint_any (n : Int) (w : World) :
    Calls Tryz.prog 66 #[.int .u64 n] w fun e w' => e = .returned (.agg #[.int .u64 n, .int .u64 0, .int .u64 0, .int .u64 0]) ∧ Below w.heap.size w w' := by
  go_enter Tryz.func66, Tryz.ntmps66
  go_wp2
  exact bodyPost_ret (v := .agg #[.int .u64 n, .int .u64 0, .int .u64 0, .int .u64 0]) (by simp [results, Tryz.results66, go_sem]) rfl ⟨rfl, by repeat' (first | with_reducible exact Below.refl _ _ | with_reducible exact Below.refl _ _ | with_reducible refine Below.drew ?_ | with_reducible refine bdrewN ?_ _ | with_reducible refine Below.alloc ?_ ?_ _ | with_reducible refine Below.setCell ?_ ?_ _ | omega | (simp; done) | (simp; omega))⟩

set_option maxHeartbeats 400000 in
set_option maxRecDepth 100000 in
theorem signBits_any (x : Int) (a0 a1 a2 a3 : Int) (w : World) (ha : IsW x a0 a1 a2 a3) :
    Calls Tryz.prog 102 #[.agg #[.int .u64 a0, .int .u64 a1, .int .u64 a2, .int .u64 a3]] w fun e w' => e = .returned (.int .u64 (if MM / 2 ≤ x % MM then 18446744073709551615 else 0)) ∧ Below w.heap.size w w' := by
  have H := negative_any x a0 a1 a2 a3
  by_cases h : MM / 2 ≤ x % MM
  · rw [if_pos h]
    have hd : decide (MM / 2 ≤ x % MM) = true := by simp [h]
    rw [hd] at H
    have HH : Hid _ := H
    clear H hd h
    go_enter Tryz.func102, Tryz.ntmps102
    go_wp2_with fail
    refine (HH.out _ ha).mono ?_
    rintro e w1 ⟨rfl, hB⟩
    have B1 : Below w.heap.size w w1 := Below.trans (by repeat' (first | with_reducible exact Below.refl _ _ | with_reducible exact Below.refl _ _ | with_reducible refine Below.drew ?_ | with_reducible refine bdrewN ?_ _ | with_reducible refine Below.alloc ?_ ?_ _ | with_reducible refine Below.setCell ?_ ?_ _ | omega | (simp; done) | (simp; omega))) (hB.mono (by first | omega | (simp; done) | (simp; omega)))
    clear hB HH
    go_wp2
    go_ret
    exact ⟨rfl, by repeat' (first | with_reducible exact B1 | with_reducible exact Below.refl _ _ | with_reducible refine Below.drew ?_ | with_reducible refine bdrewN ?_ _ | with_reducible refine Below.alloc ?_ ?_ _ | with_reducible refine Below.setCell ?_ ?_ _ | omega | (simp; done) | (simp; omega))⟩
  · rw [if_neg h]
    have hd : decide (MM / 2 ≤ x % MM) = false := by simp [h]
    rw [hd] at H
    have HH : Hid _ := H
    clear H hd h
    go_enter Tryz.func102, Tryz.ntmps102
    go_wp2_with fail
    refine (HH.out _ ha).mono ?_
    rintro e w1 ⟨rfl, hB⟩
    have B1 : Below w.heap.size w w1 := Below.trans (by repeat' (first | with_reducible exact Below.refl _ _ | with_reducible exact Below.refl _ _ | with_reducible refine Below.drew ?_ | with_reducible refine bdrewN ?_ _ | with_reducible refine Below.alloc ?_ ?_ _ | with_reducible refine Below.setCell ?_ ?_ _ | omega | (simp; done) | (simp; omega))) (hB.mono (by first | omega | (simp; done) | (simp; omega)))
    clear hB HH
    go_wp2
    go_ret
    exact ⟨rfl, by repeat' (first | with_reducible exact B1 | with_reducible exact Below.refl _ _ | with_reducible refine Below.drew ?_ | with_reducible refine bdrewN ?_ _ | with_reducible refine Below.alloc ?_ ?_ _ | with_reducible refine Below.setCell ?_ ?_ _ | omega | (simp; done) | (simp; omega))⟩

set_option maxHeartbeats 1000000 in
set_option maxRecDepth 100000 in
theorem below_lt (x n : Int) (a0 a1 a2 a3 : Int) (w : World) (ha : IsW x a0 a1 a2 a3) (hn : IsW n n 0 0 0) (h : x % MM < n % MM) :
    Calls Tryz.prog 100 #[.agg #[.int .u64 a0, .int .u64 a1, .int .u64 a2, .int .u64 a3], .int .u64 n] w fun e w' => e = .returned (.tuple #[.int .u64 a0, .bool true]) ∧ Below w.heap.size w w' := by
  have H : Hid (decide (x % MM < n % MM) = true) := by unfold Hid; simp [h]
  clear h
  go_enter Tryz.func100, Tryz.ntmps100
  go_wp2
  go_region_held3 (fun w' => Below w.heap.size w w' ∧ w.heap.size < w'.heap.size ∧ w'.cell? ⟨w.heap.size, 0, none⟩ = some (.int .u64 a0) ∧ w'.cell? ⟨w.heap.size, 1, none⟩ = some (.int .u64 a1) ∧ w'.cell? ⟨w.heap.size, 2, none⟩ = some (.int .u64 a2) ∧ w'.cell? ⟨w.heap.size, 3, none⟩ = some (.int .u64 a3)) (first | (have hzz := hB3.size; go_split_ands; (try dsimp only); refine ⟨?_, ?_, ?_, ?_, ?_, ?_⟩ <;> first | (with_reducible refine Below.trans ?_ (hB3.mono ?_) <;> first | with_reducible assumption | omega | ((try simp at hzz); omega) | (simp; omega) | ((repeat' (first | with_reducible exact Below.refl _ _ | with_reducible exact Below.refl _ _ | with_reducible refine Below.drew ?_ | with_reducible refine bdrewN ?_ _ | with_reducible refine Below.alloc ?_ ?_ _ | with_reducible refine Below.setCell ?_ ?_ _ | omega | (simp; done) | (simp; omega))); done)) | ((try simp at hzz); omega) | (with_reducible refine (hB3.cell ?_).trans ?_ <;> first | with_reducible assumption | omega | (simp; done) | (simp; omega) | (go_simp; done)) | (with_reducible refine (hB3.frozen ?_).trans ?_ <;> first | with_reducible assumption | omega | (simp; done) | (simp; omega) | (go_simp; done))) | (have hzz := hB2.size; go_split_ands; (try dsimp only); refine ⟨?_, ?_, ?_, ?_, ?_, ?_⟩ <;> first | (with_reducible refine Below.trans ?_ (hB2.mono ?_) <;> first | with_reducible assumption | omega | ((try simp at hzz); omega) | (simp; omega) | ((repeat' (first | with_reducible exact Below.refl _ _ | with_reducible exact Below.refl _ _ | with_reducible refine Below.drew ?_ | with_reducible refine bdrewN ?_ _ | with_reducible refine Below.alloc ?_ ?_ _ | with_reducible refine Below.setCell ?_ ?_ _ | omega | (simp; done) | (simp; omega))); done)) | ((try simp at hzz); omega) | (with_reducible refine (hB2.cell ?_).trans ?_ <;> first | with_reducible assumption | omega | (simp; done) | (simp; omega) | (go_simp; done)) | (with_reducible refine (hB2.frozen ?_).trans ?_ <;> first | with_reducible assumption | omega | (simp; done) | (simp; omega) | (go_simp; done))) | ((try dsimp only); refine ⟨?_, ?_, ?_, ?_, ?_, ?_⟩ <;> first | with_reducible assumption | (simp; done) | (go_simp; done) | ((repeat' (first | with_reducible exact Below.refl _ _ | with_reducible exact Below.refl _ _ | with_reducible refine Below.drew ?_ | with_reducible refine bdrewN ?_ _ | with_reducible refine Below.alloc ?_ ?_ _ | with_reducible refine Below.setCell ?_ ?_ _ | omega | (simp; done) | (simp; omega))); done))) (first
    | (go_at_call 66; refine (fromUint_any _ _).mono ?_; rintro e w2 ⟨rfl, hB2⟩)
    | (go_at_call 96; refine (lt_is _ _ _ _ _ _ _ _ _ ha hn _ H.out).mono ?_; rintro e w3 ⟨rfl, hB3⟩))
  go_split_ands
  go_wp2
  go_ret2
  exact ⟨rfl, by with_reducible assumption⟩
set_option maxHeartbeats 1000000 in
set_option maxRecDepth 100000 in
theorem below_ge (x n : Int) (a0 a1 a2 a3 : Int) (w : World) (ha : IsW x a0 a1 a2 a3) (hn : IsW n n 0 0 0) (h : ¬ x % MM < n % MM) :
    Calls Tryz.prog 100 #[.agg #[.int .u64 a0, .int .u64 a1, .int .u64 a2, .int .u64 a3], .int .u64 n] w fun e w' => e = .returned (.tuple #[.int .u64 0, .bool false]) ∧ Below w.heap.size w w' := by
  have H : Hid (decide (x % MM < n % MM) = false) := by unfold Hid; simp [h]
  clear h
  go_enter Tryz.func100, Tryz.ntmps100
  go_wp2
  go_region_held3 (fun w' => Below w.heap.size w w' ∧ w.heap.size < w'.heap.size ∧ w'.cell? ⟨w.heap.size, 0, none⟩ = some (.int .u64 a0) ∧ w'.cell? ⟨w.heap.size, 1, none⟩ = some (.int .u64 a1) ∧ w'.cell? ⟨w.heap.size, 2, none⟩ = some (.int .u64 a2) ∧ w'.cell? ⟨w.heap.size, 3, none⟩ = some (.int .u64 a3)) (first | (have hzz := hB3.size; go_split_ands; (try dsimp only); refine ⟨?_, ?_, ?_, ?_, ?_, ?_⟩ <;> first | (with_reducible refine Below.trans ?_ (hB3.mono ?_) <;> first | with_reducible assumption | omega | ((try simp at hzz); omega) | (simp; omega) | ((repeat' (first | with_reducible exact Below.refl _ _ | with_reducible exact Below.refl _ _ | with_reducible refine Below.drew ?_ | with_reducible refine bdrewN ?_ _ | with_reducible refine Below.alloc ?_ ?_ _ | with_reducible refine Below.setCell ?_ ?_ _ | omega | (simp; done) | (simp; omega))); done)) | ((try simp at hzz); omega) | (with_reducible refine (hB3.cell ?_).trans ?_ <;> first | with_reducible assumption | omega | (simp; done) | (simp; omega) | (go_simp; done)) | (with_reducible refine (hB3.frozen ?_).trans ?_ <;> first | with_reducible assumption | omega | (simp; done) | (simp; omega) | (go_simp; done))) | (have hzz := hB2.size; go_split_ands; (try dsimp only); refine ⟨?_, ?_, ?_, ?_, ?_, ?_⟩ <;> first | (with_reducible refine Below.trans ?_ (hB2.mono ?_) <;> first | with_reducible assumption | omega | ((try simp at hzz); omega) | (simp; omega) | ((repeat' (first | with_reducible exact Below.refl _ _ | with_reducible exact Below.refl _ _ | with_reducible refine Below.drew ?_ | with_reducible refine bdrewN ?_ _ | with_reducible refine Below.alloc ?_ ?_ _ | with_reducible refine Below.setCell ?_ ?_ _ | omega | (simp; done) | (simp; omega))); done)) | ((try simp at hzz); omega) | (with_reducible refine (hB2.cell ?_).trans ?_ <;> first | with_reducible assumption | omega | (simp; done) | (simp; omega) | (go_simp; done)) | (with_reducible refine (hB2.frozen ?_).trans ?_ <;> first | with_reducible assumption | omega | (simp; done) | (simp; omega) | (go_simp; done))) | ((try dsimp only); refine ⟨?_, ?_, ?_, ?_, ?_, ?_⟩ <;> first | with_reducible assumption | (simp; done) | (go_simp; done) | ((repeat' (first | with_reducible exact Below.refl _ _ | with_reducible exact Below.refl _ _ | with_reducible refine Below.drew ?_ | with_reducible refine bdrewN ?_ _ | with_reducible refine Below.alloc ?_ ?_ _ | with_reducible refine Below.setCell ?_ ?_ _ | omega | (simp; done) | (simp; omega))); done))) (first
    | (go_at_call 66; refine (fromUint_any _ _).mono ?_; rintro e w2 ⟨rfl, hB2⟩)
    | (go_at_call 96; refine (lt_is _ _ _ _ _ _ _ _ _ ha hn _ H.out).mono ?_; rintro e w3 ⟨rfl, hB3⟩))
  go_split_ands
  go_wp2
  go_ret2
  exact ⟨rfl, by with_reducible assumption⟩
end Go.Proofs.YtpadpmkfhljiiaaGreat
/- Exp: powers, bit by bit. -/
namespace Go.Proofs.YtpadpmkfhljiiaaGreat
open Go.RowKit
/-- block b holds this word, and may be written -/
def Box (W : World) (b : Nat) (a0 a1 a2 a3 : Int) : Prop := (∀ i, i < 4 → W.cell? ⟨b, i, none⟩ = some (.int .u64 (limb a0 a1 a2 a3 i))) ∧ ∀ i, i < 4 → W.frozen? ⟨b, i, none⟩ = false
theorem Box.lt {W : World} {b : Nat} {a0 a1 a2 a3 : Int} (h : Box W b a0 a1 a2 a3) : b < W.heap.size := World.block_lt_of_cell? W _ (h.1 0 (by omega))
theorem Box.below {W W' : World} {B b : Nat} {a0 a1 a2 a3 : Int} (h : Box W b a0 a1 a2 a3) (k : Below B W W') (hb : b < B) : Box W' b a0 a1 a2 a3 :=
  ⟨fun i hi => (k.cell (p := ⟨b, i, none⟩) hb).trans (h.1 i hi), fun i hi => (k.frozen (p := ⟨b, i, none⟩) hb).trans (h.2 i hi)⟩
theorem Box.new (W : World) (t : TypeId) (a0 a1 a2 a3 : Int) : Box (W.alloc (.cells #[.int .u64 a0, .int .u64 a1, .int .u64 a2, .int .u64 a3] t)) W.heap.size a0 a1 a2 a3 :=
  ⟨fun i hi => box_cell W a0 a1 a2 a3 t i hi, fun i _ => by simp [World.frozen?_alloc_at]⟩
theorem Box.alloc {W : World} {b : Nat} {a0 a1 a2 a3 : Int} (h : Box W b a0 a1 a2 a3) (o : Obj) : Box (W.alloc o) b a0 a1 a2 a3 := h.below ((Below.refl _ _).alloc (Nat.le_refl _) _) h.lt
theorem Box.other {W : World} {b : Nat} {a0 a1 a2 a3 : Int} (h : Box W b a0 a1 a2 a3) (p : Addr) (x : Value) (hp : p.block ≠ b) : Box (W.setCell p x) b a0 a1 a2 a3 :=
  ⟨fun i hi => by rw [World.cell?_setCell_other _ _ _ _ (by intro e; subst e; exact hp rfl)]; exact h.1 i hi, fun i hi => by rw [World.frozen?_setCell]; exact h.2 i hi⟩
theorem Box.facts {W : World} {b : Nat} {a0 a1 a2 a3 : Int} (h : Box W b a0 a1 a2 a3) : W.cell? ⟨b, 0, none⟩ = some (.int .u64 a0) ∧ W.cell? ⟨b, 1, none⟩ = some (.int .u64 a1) ∧ W.cell? ⟨b, 2, none⟩ = some (.int .u64 a2) ∧ W.cell? ⟨b, 3, none⟩ = some (.int .u64 a3) ∧
    W.frozen? ⟨b, 0, none⟩ = false ∧ W.frozen? ⟨b, 1, none⟩ = false ∧ W.frozen? ⟨b, 2, none⟩ = false ∧ W.frozen? ⟨b, 3, none⟩ = false :=
  ⟨h.1 0 (by omega), h.1 1 (by omega), h.1 2 (by omega), h.1 3 (by omega), h.2 0 (by omega), h.2 1 (by omega), h.2 2 (by omega), h.2 3 (by omega)⟩
theorem Box.drew {W : World} {b : Nat} {a0 a1 a2 a3 : Int} (h : Box W b a0 a1 a2 a3) : Box W.drew b a0 a1 a2 a3 := h
/-- a word is laid over another -/
def put4 (W : World) (b : Nat) (s0 s1 s2 s3 : Int) : World := (((W.setCell ⟨b, 0, none⟩ (.int .u64 s0)).setCell ⟨b, 1, none⟩ (.int .u64 s1)).setCell ⟨b, 2, none⟩ (.int .u64 s2)).setCell ⟨b, 3, none⟩ (.int .u64 s3)
theorem Box.put {W : World} {b : Nat} {a0 a1 a2 a3 : Int} (h : Box W b a0 a1 a2 a3) (s0 s1 s2 s3 : Int) : Box (put4 W b s0 s1 s2 s3) b s0 s1 s2 s3 := by
  obtain ⟨c0, c1, c2, c3, f0, f1, f2, f3⟩ := h.facts
  unfold put4
  refine ⟨fun i hi => ?_, fun i hi => by simp only [World.frozen?_setCell]; exact h.2 i hi⟩
  obtain rfl | rfl | rfl | rfl : i = 0 ∨ i = 1 ∨ i = 2 ∨ i = 3 := by omega
  all_goals (show _ = some _; go_simp; rfl)
theorem Box.put_other {W : World} {b c : Nat} {a0 a1 a2 a3 : Int} (h : Box W b a0 a1 a2 a3) (hc : c ≠ b) (s0 s1 s2 s3 : Int) : Box (put4 W c s0 s1 s2 s3) b a0 a1 a2 a3 :=
  (((h.other _ _ hc).other _ _ hc).other _ _ hc).other _ _ hc
theorem below_put {B c : Nat} {w W : World} (h : Below B w W) (hc : B ≤ c) (s0 s1 s2 s3 : Int) : Below B w (put4 W c s0 s1 s2 s3) := (((h.setCell hc _).setCell hc _).setCell hc _).setCell hc _
/-- while the power is made -/
structure ExpInv (w : World) (c : Nat) (a0 a1 a2 a3 b0 b1 b2 b3 s0 s1 s2 s3 : Int) (W : World) : Prop where
  bel : Below w.heap.size w W
  ba : Box W w.heap.size a0 a1 a2 a3
  bb : Box W (w.heap.size + 1) b0 b1 b2 b3
  br : Box W (w.heap.size + 1 + 1) 0 0 0 0
  bp : Box W c s0 s1 s2 s3
theorem ExpInv.past {w W W' : World} {c : Nat} {a0 a1 a2 a3 b0 b1 b2 b3 s0 s1 s2 s3 : Int} (h : ExpInv w c a0 a1 a2 a3 b0 b1 b2 b3 s0 s1 s2 s3 W) (k : Below W.heap.size W W') : ExpInv w c a0 a1 a2 a3 b0 b1 b2 b3 s0 s1 s2 s3 W' :=
  ⟨h.bel.trans (k.mono h.bel.size), h.ba.below k h.ba.lt, h.bb.below k h.bb.lt, h.br.below k h.br.lt, h.bp.below k h.bp.lt⟩
theorem ExpInv.put {w W : World} {c : Nat} {a0 a1 a2 a3 b0 b1 b2 b3 s0 s1 s2 s3 : Int} (h : ExpInv w c a0 a1 a2 a3 b0 b1 b2 b3 s0 s1 s2 s3 W) (hc : w.heap.size + 1 + 1 < c) (t0 t1 t2 t3 : Int) : ExpInv w c a0 a1 a2 a3 b0 b1 b2 b3 t0 t1 t2 t3 (put4 W c t0 t1 t2 t3) :=
  ⟨below_put h.bel (by omega) _ _ _ _, h.ba.put_other (by omega) _ _ _ _, h.bb.put_other (by omega) _ _ _ _, h.br.put_other (by omega) _ _ _ _, h.bp.put _ _ _ _⟩
set_option maxHeartbeats 2000000 in
set_option maxRecDepth 100000 in
theorem exp_any (x y : Int) (a0 a1 a2 a3 b0 b1 b2 b3 : Int) (w : World) (ha : IsW x a0 a1 a2 a3) (hb : IsW y b0 b1 b2 b3) (Y : Nat) (hY : V b0 b1 b2 b3 = (Y : Int)) :
    Calls Tryz.prog 145 #[.agg #[.int .u64 a0, .int .u64 a1, .int .u64 a2, .int .u64 a3], .agg #[.int .u64 b0, .int .u64 b1, .int .u64 b2, .int .u64 b3]] w fun e w' => ∃ s0 s1 s2 s3 : Int, e = .returned (.agg #[.int .u64 s0, .int .u64 s1, .int .u64 s2, .int .u64 s3]) ∧ IsW (x ^ Y) s0 s1 s2 s3 ∧ Below w.heap.size w w' := by
  have HA : Hid (IsW x a0 a1 a2 a3) := ha
  have HB : Hid (IsW y b0 b1 b2 b3) := hb
  have HY : Hid (V b0 b1 b2 b3 = (Y : Int)) := hY
  have I0 : Hid (Below w.heap.size w (((w.alloc (.cells #[.int .u64 a0, .int .u64 a1, .int .u64 a2, .int .u64 a3] 24)).alloc (.cells #[.int .u64 b0, .int .u64 b1, .int .u64 b2, .int .u64 b3] 24)).alloc (.cells #[.int .u64 0, .int .u64 0, .int .u64 0, .int .u64 0] 24))) := by
    unfold Hid; repeat' (first | with_reducible exact Below.refl _ _ | with_reducible exact Below.refl _ _ | with_reducible refine Below.drew ?_ | with_reducible refine bdrewN ?_ _ | with_reducible refine Below.alloc ?_ ?_ _ | with_reducible refine Below.setCell ?_ ?_ _ | omega | (simp; done) | (simp; omega))
  have A0 : Hid (∀ W, W = (((w.alloc (.cells #[.int .u64 a0, .int .u64 a1, .int .u64 a2, .int .u64 a3] 24)).alloc (.cells #[.int .u64 b0, .int .u64 b1, .int .u64 b2, .int .u64 b3] 24)).alloc (.cells #[.int .u64 0, .int .u64 0, .int .u64 0, .int .u64 0] 24)) →
      Box W w.heap.size a0 a1 a2 a3 ∧ Box W (w.heap.size + 1) b0 b1 b2 b3 ∧ Box W (w.heap.size + 1 + 1) 0 0 0 0) := fun W e => by
    subst e
    have h2 := Box.new (w.alloc (.cells #[.int .u64 a0, .int .u64 a1, .int .u64 a2, .int .u64 a3] 24)) 24 b0 b1 b2 b3
    have h3 := Box.new ((w.alloc (.cells #[.int .u64 a0, .int .u64 a1, .int .u64 a2, .int .u64 a3] 24)).alloc (.cells #[.int .u64 b0, .int .u64 b1, .int .u64 b2, .int .u64 b3] 24)) 24 0 0 0 0
    rw [World.size_alloc] at h2 h3
    rw [World.size_alloc] at h3
    exact ⟨((Box.new w 24 a0 a1 a2 a3).alloc _).alloc _, h2.alloc _, h3⟩
  clear ha hb hY
  go_enter Tryz.func145, Tryz.ntmps145
  go_wp2_with fail
  refine (fromUint_any 1 _).mono ?_
  rintro e v1 ⟨rfl, hB⟩
  obtain ⟨h1, h2, h3⟩ := A0.out _ rfl
  have W1 : Hid (Below w.heap.size w v1) := Below.trans I0.out (hB.mono I0.out.size)
  have BA : Hid (Box v1 w.heap.size a0 a1 a2 a3) := h1.below hB h1.lt
  have BB : Hid (Box v1 (w.heap.size + 1) b0 b1 b2 b3) := h2.below hB h2.lt
  have BR : Hid (Box v1 (w.heap.size + 1 + 1) 0 0 0 0) := h3.below hB h3.lt
  have zc : w.heap.size + 1 + 1 < v1.heap.size := Box.lt BR.out
  clear hB h1 h2 h3 A0 I0
  go_upto_region 2 with fail
  have X1 : Hid (ExpInv w v1.heap.size a0 a1 a2 a3 b0 b1 b2 b3 1 0 0 0 (v1.alloc (.cells #[.int .u64 1, .int .u64 0, .int .u64 0, .int .u64 0] 24))) := ⟨Below.alloc W1.out W1.out.size _, Box.alloc BA.out _, Box.alloc BB.out _, Box.alloc BR.out _, Box.new v1 24 1 0 0 0⟩
  generalize v1.alloc (.cells #[.int .u64 1, .int .u64 0, .int .u64 0, .int .u64 0] 24) = v2 at X1 ⊢
  generalize v1.heap.size = c at zc X1 ⊢
  clear W1 BA BB BR
  obtain ⟨cb0, cb1, cb2, cb3, _⟩ := Box.facts X1.out.bb
  go_wp2_with fail
  refine (zerosAhead_any y b0 b1 b2 b3 _ HB.out).mono ?_
  rintro e v3 ⟨B, rfl, hB256, hbits, hB⟩
  have X3 : Hid (ExpInv w c a0 a1 a2 a3 b0 b1 b2 b3 1 0 0 0 v3) := ExpInv.past X1.out hB
  have S0 : Hid (IsW (x ^ (Y / 2 ^ B)) 1 0 0 0) := by
    have h1 := hbits.1
    rw [HY.out] at h1
    have h2 : Y < 2 ^ B := by exact_mod_cast h1
    unfold Hid
    rw [Nat.div_eq_of_lt h2, Int.pow_zero]; exact isW_1
  have eB : (255 : Int) - (256 - (B : Int)) = (B : Int) - 1 := by omega
  have bI : (B : Int) ≤ 256 := by omega
  clear hB hbits cb0 cb1 cb2 cb3 X1
  go_wp2
  go_loopw [6] (fun i wr => ∃ (j : Nat) (s0 s1 s2 s3 : Int), i = .int .i64 ((j : Int) - 1) ∧ j ≤ 256 ∧ IsW (x ^ (Y / 2 ^ j)) s0 s1 s2 s3 ∧ ExpInv w c a0 a1 a2 a3 b0 b1 b2 b3 s0 s1 s2 s3 wr) (fun i _ => (intOf i + 1).toNat)
  case atStart => exact ⟨B, 1, 0, 0, 0, by first | rfl | go_num, hB256, S0.out, X3.out⟩
  case round =>
    obtain ⟨j, s0, s1, s2, s3, rfl, hj, hs, hX⟩ := hrel
    clear X3 S0 eB bI hB256
    have HS : Hid (IsW (x ^ (Y / 2 ^ j)) s0 s1 s2 s3) := hs
    have X : Hid (ExpInv w c a0 a1 a2 a3 b0 b1 b2 b3 s0 s1 s2 s3 wr) := hX
    clear hs hX
    rcases j with _ | j
    · obtain ⟨p0, p1, p2, p3, _⟩ := Box.facts X.out.bp
      obtain ⟨r0, r1, r2, r3, f0, f1, f2, f3⟩ := Box.facts X.out.br
      go_wp2
      exact bodyPost_ret (v := .agg #[.int .u64 s0, .int .u64 s1, .int .u64 s2, .int .u64 s3]) (by simp [results, Tryz.results145, go_sem, r0, r1, r2, r3]) rfl ⟨s0, s1, s2, s3, rfl, by have h := HS.out; rw [Nat.pow_zero, Nat.div_one] at h; exact h, below_put X.out.bel (by omega) _ _ _ _⟩
    · rw [show ((j + 1 : Nat) : Int) - 1 = (j : Int) by omega]
      obtain ⟨p0, p1, p2, p3, q0, q1, q2, q3⟩ := Box.facts X.out.bp
      have jI : (0 : Int) ≤ (j : Int) := by omega
      go_upto_region 6 with (go_at_call 15; refine (mul_any _ _ _ _ _ _ _ _ _ _ _ HS.out HS.out).mono ?_; rintro e x1 ⟨t0, t1, t2, t3, rfl, ht, hB⟩; (have HT : Hid (IsW (x ^ (Y / 2 ^ (j + 1)) * x ^ (Y / 2 ^ (j + 1))) t0 t1 t2 t3) := ht); (have X1 : Hid (ExpInv w c a0 a1 a2 a3 b0 b1 b2 b3 s0 s1 s2 s3 x1) := ExpInv.past X.out hB); clear ht hB p0 p1 p2 p3 q0 q1 q2 q3; obtain ⟨p0, p1, p2, p3, q0, q1, q2, q3⟩ := Box.facts X1.out.bp)
      have X2 : Hid (ExpInv w c a0 a1 a2 a3 b0 b1 b2 b3 t0 t1 t2 t3 ((((x1.setCell ⟨c, 0, none⟩ (.int .u64 t0)).setCell ⟨c, 1, none⟩ (.int .u64 t1)).setCell ⟨c, 2, none⟩ (.int .u64 t2)).setCell ⟨c, 3, none⟩ (.int .u64 t3))) := ExpInv.put X1.out zc t0 t1 t2 t3
      generalize ((((x1.setCell ⟨c, 0, none⟩ (.int .u64 t0)).setCell ⟨c, 1, none⟩ (.int .u64 t1)).setCell ⟨c, 2, none⟩ (.int .u64 t2)).setCell ⟨c, 3, none⟩ (.int .u64 t3)) = x2 at X2 ⊢
      clear X X1 p0 p1 p2 p3 q0 q1 q2 q3
      obtain ⟨p0, p1, p2, p3, q0, q1, q2, q3⟩ := Box.facts X2.out.bp
      obtain ⟨d, ed⟩ : ∃ d : Nat, d = j / 64 := ⟨_, rfl⟩
      obtain ⟨r, er⟩ : ∃ r : Nat, r = j % 64 := ⟨_, rfl⟩
      have t1' : Int.tdiv (j : Int) 64 = (d : Int) := by rw [Int.tdiv_eq_ediv_of_nonneg (by omega)]; omega
      have t2' : Int.tmod (j : Int) 64 = (r : Int) := by rw [Int.tmod_eq_emod_of_nonneg (by omega)]; omega
      have w1 : IntKind.i64.wrap (d : Int) = (d : Int) := by rw [IntKind.wrap_i64]; omega
      have w2 : IntKind.i64.wrap (r : Int) = (r : Int) := by rw [IntKind.wrap_i64]; omega
      have w3 : IntKind.u64.wrap (r : Int) = (r : Int) := by rw [IntKind.wrap_u64]; omega
      have dI : (d : Int) < 4 := by omega
      have d4 : d < 4 := by omega
      have r64 : (r : Int) < 64 := by omega
      have r0' : (0 : Int) ≤ (r : Int) := by omega
      have m5 : min r 64 = r := by omega
      have cd := X2.out.bb.1 d d4
      have hu := limb_u64 HB.out.u0 HB.out.u1 HB.out.u2 HB.out.u3 d
      have hbit := bit_limb HB.out.u0 HB.out.u1 HB.out.u2 HB.out.u3 Y HY.out j (by omega)
      rw [← ed, ← er] at hbit
      have hv := bit_val hu r
      rw [hbit] at hv
      have hh := half_bit Y j
      generalize limb b0 b1 b2 b3 d = z at cd hv
      have HH : Hid _ := hh
      clear hu hbit ed er hh
      by_cases hbt : Y.testBit j = true
      · have hv1 : bits .and .u64 (z / 2 ^ r) 1 = 1 := by rw [hv, if_pos hbt]
        obtain ⟨a0', a1', a2', a3', _⟩ := Box.facts X2.out.ba
        clear hv
        go_upto_region 4 with (go_at_call 15; refine (mul_any _ _ _ _ _ _ _ _ _ _ _ HT.out HA.out).mono ?_; rintro e x3 ⟨u0, u1, u2, u3, rfl, ht, hB⟩; (have HU : Hid (IsW (x ^ (Y / 2 ^ (j + 1)) * x ^ (Y / 2 ^ (j + 1)) * x) u0 u1 u2 u3) := ht); (have X3 : Hid (ExpInv w c a0 a1 a2 a3 b0 b1 b2 b3 t0 t1 t2 t3 x3) := ExpInv.past X2.out hB); clear ht hB p0 p1 p2 p3 q0 q1 q2 q3; obtain ⟨p0, p1, p2, p3, q0, q1, q2, q3⟩ := Box.facts X3.out.bp)
        have X4 : Hid (ExpInv w c a0 a1 a2 a3 b0 b1 b2 b3 u0 u1 u2 u3 ((((x3.setCell ⟨c, 0, none⟩ (.int .u64 u0)).setCell ⟨c, 1, none⟩ (.int .u64 u1)).setCell ⟨c, 2, none⟩ (.int .u64 u2)).setCell ⟨c, 3, none⟩ (.int .u64 u3))) := ExpInv.put X3.out zc u0 u1 u2 u3
        generalize ((((x3.setCell ⟨c, 0, none⟩ (.int .u64 u0)).setCell ⟨c, 1, none⟩ (.int .u64 u1)).setCell ⟨c, 2, none⟩ (.int .u64 u2)).setCell ⟨c, 3, none⟩ (.int .u64 u3)) = x4 at X4 ⊢
        clear X2 X3 p0 p1 p2 p3 q0 q1 q2 q3 cd a0' a1' a2' a3'
        have R : Hid (IsW (x ^ (Y / 2 ^ j)) u0 u1 u2 u3) := by
          have h := HU.out
          unfold Hid
          rw [HH.out, hbt, if_pos rfl, Int.pow_succ, Nat.two_mul, Int.pow_add]; exact h
        clear HU HT HS HH
        go_wp2
        go_roundw
        case rel => exact ⟨j, u0, u1, u2, u3, rfl, by omega, R.out, X4.out⟩
        case measure => simp [intOf]
      · have hv1 : bits .and .u64 (z / 2 ^ r) 1 = 0 := by rw [hv, if_neg hbt]
        have R : Hid (IsW (x ^ (Y / 2 ^ j)) t0 t1 t2 t3) := by
          have h := HT.out
          unfold Hid
          rw [HH.out, if_neg hbt, Nat.add_zero, Nat.two_mul, Int.pow_add]; exact h
        clear hv HT HS HH
        go_wp2
        go_roundw
        case rel => exact ⟨j, t0, t1, t2, t3, rfl, by omega, R.out, X2.out⟩
        case measure => simp [intOf]
end Go.Proofs.YtpadpmkfhljiiaaGreat
/- The document's 'of' (a word's digits), 'none', and its comparisons. -/
namespace Go.Proofs.YtpadpmkfhljiiaaGreat
open Go.RowKit
theorem dig_limb {a0 a1 a2 a3 : Int} (h0 : U64 a0) (h1 : U64 a1) (h2 : U64 a2) (h3 : U64 a3) (X : Nat) (hX : V a0 a1 a2 a3 = (X : Int)) (i : Nat) (hi : i < 32) : ((limb a0 a1 a2 a3 (i / 8)).toNat / 256 ^ (i % 8)) % 256 = dig X i := by
  obtain ⟨h00, h01⟩ := h0
  obtain ⟨h10, h11⟩ := h1
  obtain ⟨h20, h21⟩ := h2
  obtain ⟨h30, h31⟩ := h3
  unfold Bd at h01 h11 h21 h31
  unfold V Bd at hX
  rw [dig, if_pos hi]
  obtain ⟨q, eq⟩ : ∃ q, q = i / 8 := ⟨_, rfl⟩
  obtain ⟨r, er⟩ : ∃ r, r = i % 8 := ⟨_, rfl⟩
  rw [show i = 8 * q + r by omega, show (8 * q + r) / 8 = q by omega, show (8 * q + r) % 8 = r by omega, Nat.pow_add, ← Nat.div_div_eq_div_mul]
  have hq : q = 0 ∨ q = 1 ∨ q = 2 ∨ q = 3 := by omega
  have hr : r = 0 ∨ r = 1 ∨ r = 2 ∨ r = 3 ∨ r = 4 ∨ r = 5 ∨ r = 6 ∨ r = 7 := by omega
  have key : ∃ hi : Nat, X / 256 ^ (8 * q) = (limb a0 a1 a2 a3 q).toNat + 18446744073709551616 * hi := by
    rcases hq with rfl | rfl | rfl | rfl
    · exact ⟨X / 18446744073709551616, by simp only [limb]; simp; omega⟩
    · exact ⟨X / 340282366920938463463374607431768211456, by simp only [limb]; simp; omega⟩
    · exact ⟨X / 6277101735386680763835789423207666416102355444464034512896, by simp only [limb]; simp; omega⟩
    · exact ⟨0, by simp only [limb]; simp; omega⟩
  obtain ⟨hh, key⟩ := key
  rw [key]
  generalize (limb a0 a1 a2 a3 q).toNat = l
  rcases hr with rfl | rfl | rfl | rfl | rfl | rfl | rfl | rfl <;> simp only [Nat.reducePow, Nat.pow_zero] <;> omega
theorem of_step {W0 wr w1 : World} {v v' : Value} {o : Obj} {d : Nat → Nat} {k y : Nat} (hy : y = d k) (hown : wr.ownsRow W0.heap.size 3 1 v k (intsD d k)) (hB : Below W0.heap.size W0 wr)
    (hown' : w1.ownsRow W0.heap.size 3 1 v' (k + 1) (intsD d k ++ [.int .i64 (y : Int)])) (hg : (wr.alloc o).grownBy w1 v.ownBlock) :
    w1.ownsRow W0.heap.size 3 1 v' (k + 1) (intsD d (k + 1)) ∧ Below W0.heap.size W0 w1 := by
  rw [intsD_snoc, ← hy]
  exact ⟨hown', Below.grown (hB.alloc hB.size o) hg (by have := hB.size; simp; omega) (fun q h => (hown.lt q h).1)⟩
set_option maxHeartbeats 2000000 in
set_option maxRecDepth 100000 in
theorem of_is (x : Int) (a0 a1 a2 a3 : Int) (w : World) (ha : IsW x a0 a1 a2 a3) (X : Nat) (hX : V a0 a1 a2 a3 = (X : Int)) :
    Calls Tryz.prog 79 #[.agg #[.int .u64 a0, .int .u64 a1, .int .u64 a2, .int .u64 a3]] w fun e w' => ∃ v, e = .returned v ∧ RowAt w' v 32 (dig X) ∧ Below w.heap.size w w' := by
  have HA : Hid (IsW x a0 a1 a2 a3) := ha
  have HX : Hid (V a0 a1 a2 a3 = (X : Int)) := hX
  obtain ⟨i0, hi, hz0, hz1, hz2⟩ := info_parts Tryz.infoI
  have B1 : Hid (Below w.heap.size w (w.alloc (.cells #[.int .u64 a0, .int .u64 a1, .int .u64 a2, .int .u64 a3] 24))) := (Below.refl _ _).alloc (by omega) _
  have hc := box_cell w a0 a1 a2 a3 24
  have HC : Hid _ := hc
  clear ha hX hc
  go_enter Tryz.func79, Tryz.ntmps79
  go_wp2
  obtain ⟨W0, e0⟩ : ∃ W0, w.alloc (.cells #[.int .u64 a0, .int .u64 a1, .int .u64 a2, .int .u64 a3] 24) = W0 := ⟨_, rfl⟩
  rw [e0] at B1 HC ⊢
  have z0 : w.heap.size < W0.heap.size := World.block_lt_of_cell? W0 _ (HC.out 0 (by omega))
  clear e0
  go_loopw [3, 4] (fun s3 i wr => ∃ k : Nat, k ≤ 32 ∧ i = .int .i64 k ∧ wr.ownsRow W0.heap.size 3 1 s3 k (intsD (dig X) k) ∧ Below W0.heap.size W0 wr) (fun _ i _ => 32 - (intOf i).toNat)
  case atStart => exact ⟨0, by omega, rfl, World.ownsRow_nil _ _ _ _, Below.refl _ _⟩
  case round =>
    obtain ⟨k, hk, rfl, hown, hB⟩ := hrel
    have HOW : Hid _ := hown
    have HB : Hid _ := hB
    have b0 := hB.size
    by_cases hk5 : k < 32
    · have kI : (k : Int) < 32 := by omega
      obtain ⟨q, eq⟩ : ∃ q : Nat, q = k / 8 := ⟨_, rfl⟩
      obtain ⟨r, er⟩ : ∃ r : Nat, r = k % 8 := ⟨_, rfl⟩
      have t1 : Int.tdiv (k : Int) 8 = (q : Int) := by rw [Int.tdiv_eq_ediv_of_nonneg (by omega)]; omega
      have t2 : Int.tmod (k : Int) 8 = (r : Int) := by rw [Int.tmod_eq_emod_of_nonneg (by omega)]; omega
      have w1 : IntKind.i64.wrap (q : Int) = (q : Int) := by rw [IntKind.wrap_i64]; omega
      have w2 : IntKind.i64.wrap (r : Int) = (r : Int) := by rw [IntKind.wrap_i64]; omega
      have qI : (q : Int) < 4 := by omega
      have r8 : r < 8 := by omega
      have cell := (hB.cell (p := ⟨w.heap.size, q, none⟩) z0).trans (HC.out q (by omega))
      have hu := limb_u64 HA.out.u0 HA.out.u1 HA.out.u2 HA.out.u3 q
      have hd := dig_limb HA.out.u0 HA.out.u1 HA.out.u2 HA.out.u3 X HX.out k hk5
      rw [← eq, ← er] at hd
      generalize limb a0 a1 a2 a3 q = z at cell hu hd
      obtain ⟨zn, rfl⟩ : ∃ zn : Nat, z = (zn : Int) := ⟨z.toNat, by have := hu.1; omega⟩
      have zb : zn < 18446744073709551616 := by have := hu.2; unfold Bd at this; omega
      rw [Int.toNat_natCast] at hd
      have HD : Hid _ := hd
      clear hd hu eq er hown hB
      go_wp2
      go_loop [5, 6] (fun c j => ∃ m : Nat, m ≤ r ∧ j = .int .i64 m ∧ c = .int .u64 ((zn / 256 ^ m : Nat) : Int)) (fun _ j => r - (intOf j).toNat)
      case atStart => exact ⟨0, by omega, rfl, by rw [Nat.pow_zero, Nat.div_one]⟩
      case round =>
        obtain ⟨m, hm, rfl, rfl⟩ := hrel
        by_cases hmr : m < r
        · have mI : (m : Int) < (r : Int) := by omega
          have m8 : (m : Int) < 8 := by omega
          have e1 : zn / 256 ^ (m + 1) = zn / 256 ^ m / 256 := by rw [Nat.pow_succ, Nat.div_div_eq_div_mul]
          have l1 : zn / 256 ^ m ≤ zn := Nat.div_le_self _ _
          have E1 : Hid _ := e1
          generalize zn / 256 ^ m = u at e1 l1 E1
          have t3 : Int.tdiv (u : Int) 256 = ((u / 256 : Nat) : Int) := by rw [Int.tdiv_eq_ediv_of_nonneg (by omega)]; omega
          have w3 : IntKind.u64.wrap ((u / 256 : Nat) : Int) = ((u / 256 : Nat) : Int) := by rw [IntKind.wrap_u64]; omega
          clear e1
          go_wp2
          go_round
          case rel => exact ⟨m + 1, by omega, by go_num, by rw [E1.out]; first | rfl | (congr 1; omega)⟩
          case measure => simp [intOf]; omega
        · obtain rfl : m = r := by omega
          have mI : ¬ ((m : Int) < (m : Int)) := by omega
          have l1 : zn / 256 ^ m ≤ zn := Nat.div_le_self _ _
          generalize zn / 256 ^ m = u at HD l1
          obtain ⟨y, ey⟩ : ∃ y : Nat, y = u % 256 := ⟨_, rfl⟩
          have t3 : Int.tmod (u : Int) 256 = (y : Int) := by rw [Int.tmod_eq_emod_of_nonneg (by omega)]; omega
          have t4 : (u : Int) % 256 = (y : Int) := by omega
          have w3 : IntKind.u64.wrap (y : Int) = (y : Int) := by rw [IntKind.wrap_u64]; omega
          have w4 : IntKind.i64.wrap (y : Int) = (y : Int) := by rw [IntKind.wrap_i64]; omega
          have EY : Hid (y = dig X k) := by have h := HD.out; unfold Hid; rw [← h, ey]
          clear ey HD
          go_wp2_with (at_builtin; refine wpList_append_own _ rfl _ _ 61 rfl W0.heap.size 3 i0 (.int .i64 0) 1 8 Tryz.underlying61 hi hz0 hz1 hz2 rfl (by decide) _ _ _ rfl (World.ownsRow.alloc HOW.out _) ⟨wr.heap.size, 0, none⟩ 1 1 [.int .i64 (y : Int)] rfl rfl (fun j u hj => (by have hj0 : j = 0 := (by have := (List.getElem?_eq_some_iff.1 hj).1; simpa using this); subst hj0; simp at hj; subst hj; (first | (simp [Addr.add]; done) | (simp [Addr.add]; first | exact t4 | omega)))) (fun u hu => (by rw [List.mem_singleton.1 hu]; rfl)) (by unfold maxLen; omega) (by omega) (by simp; omega) ?_; intro v' w1 hown' hgrow _)
          have R : Hid _ := of_step EY.out HOW.out HB.out hown' hgrow
          clear hown' hgrow
          go_wp2
          go_roundw
          case rel => exact ⟨k + 1, by omega, by go_num, R.out⟩
          case measure => simp [intOf]; omega
    · obtain rfl : k = 32 := by omega
      clear hown hB
      go_wp2
      go_ret
      exact ⟨_, rfl, RowAt.own HOW.out (dig_lt X) (fun i hi => by rw [dig, if_neg (by omega)]) (by omega), Below.trans B1.out (HB.out.mono (by omega))⟩
end Go.Proofs.YtpadpmkfhljiiaaGreat
/- Sums, products and powers, their words named ahead. -/
namespace Go.Proofs.YtpadpmkfhljiiaaGreat
open Go.RowKit
theorem isW_ex (v : Int) : ∃ a0 a1 a2 a3 : Int, IsW v a0 a1 a2 a3 := by
  refine ⟨v % 18446744073709551616, v / 18446744073709551616 % 18446744073709551616, v / 340282366920938463463374607431768211456 % 18446744073709551616, v / 6277101735386680763835789423207666416102355444464034512896 % 18446744073709551616, ⟨⟨by omega, by unfold Bd; omega⟩, ⟨by omega, by unfold Bd; omega⟩, ⟨by omega, by unfold Bd; omega⟩, ⟨by omega, by unfold Bd; omega⟩⟩, ?_⟩
  unfold V Bd MM; omega
theorem add_is (x y : Int) (a0 a1 a2 a3 b0 b1 b2 b3 p0 p1 p2 p3 : Int) (w : World) (ha : IsW x a0 a1 a2 a3) (hb : IsW y b0 b1 b2 b3) (hp : IsW (x + y) p0 p1 p2 p3) :
    Calls Tryz.prog 11 #[.agg #[.int .u64 a0, .int .u64 a1, .int .u64 a2, .int .u64 a3], .agg #[.int .u64 b0, .int .u64 b1, .int .u64 b2, .int .u64 b3]] w fun e w' => e = .returned (.agg #[.int .u64 p0, .int .u64 p1, .int .u64 p2, .int .u64 p3]) ∧ Below w.heap.size w w' := by
  refine (add_any x y a0 a1 a2 a3 b0 b1 b2 b3 w ha hb).mono ?_
  rintro e w' ⟨s0, s1, s2, s3, rfl, hs, hB⟩
  obtain ⟨rfl, rfl, rfl, rfl⟩ := hs.eq hp rfl
  exact ⟨rfl, hB⟩
theorem sub_is (x y : Int) (a0 a1 a2 a3 b0 b1 b2 b3 p0 p1 p2 p3 : Int) (w : World) (ha : IsW x a0 a1 a2 a3) (hb : IsW y b0 b1 b2 b3) (hp : IsW (x - y) p0 p1 p2 p3) :
    Calls Tryz.prog 13 #[.agg #[.int .u64 a0, .int .u64 a1, .int .u64 a2, .int .u64 a3], .agg #[.int .u64 b0, .int .u64 b1, .int .u64 b2, .int .u64 b3]] w fun e w' => e = .returned (.agg #[.int .u64 p0, .int .u64 p1, .int .u64 p2, .int .u64 p3]) ∧ Below w.heap.size w w' := by
  refine (sub_any x y a0 a1 a2 a3 b0 b1 b2 b3 w ha hb).mono ?_
  rintro e w' ⟨s0, s1, s2, s3, rfl, hs, hB⟩
  obtain ⟨rfl, rfl, rfl, rfl⟩ := hs.eq hp rfl
  exact ⟨rfl, hB⟩
theorem mul_is (x y : Int) (a0 a1 a2 a3 b0 b1 b2 b3 p0 p1 p2 p3 : Int) (w : World) (ha : IsW x a0 a1 a2 a3) (hb : IsW y b0 b1 b2 b3) (hp : IsW (x * y) p0 p1 p2 p3) :
    Calls Tryz.prog 15 #[.agg #[.int .u64 a0, .int .u64 a1, .int .u64 a2, .int .u64 a3], .agg #[.int .u64 b0, .int .u64 b1, .int .u64 b2, .int .u64 b3]] w fun e w' => e = .returned (.agg #[.int .u64 p0, .int .u64 p1, .int .u64 p2, .int .u64 p3]) ∧ Below w.heap.size w w' := by
  refine (mul_any x y a0 a1 a2 a3 b0 b1 b2 b3 w ha hb).mono ?_
  rintro e w' ⟨s0, s1, s2, s3, rfl, hs, hB⟩
  obtain ⟨rfl, rfl, rfl, rfl⟩ := hs.eq hp rfl
  exact ⟨rfl, hB⟩
theorem exp_is (x y : Int) (Y : Nat) (a0 a1 a2 a3 b0 b1 b2 b3 p0 p1 p2 p3 : Int) (w : World) (ha : IsW x a0 a1 a2 a3) (hb : IsW y b0 b1 b2 b3) (hY : V b0 b1 b2 b3 = (Y : Int)) (hp : IsW (x ^ Y) p0 p1 p2 p3) :
    Calls Tryz.prog 145 #[.agg #[.int .u64 a0, .int .u64 a1, .int .u64 a2, .int .u64 a3], .agg #[.int .u64 b0, .int .u64 b1, .int .u64 b2, .int .u64 b3]] w fun e w' => e = .returned (.agg #[.int .u64 p0, .int .u64 p1, .int .u64 p2, .int .u64 p3]) ∧ Below w.heap.size w w' := by
  refine (exp_any x y a0 a1 a2 a3 b0 b1 b2 b3 w ha hb Y hY).mono ?_
  rintro e w' ⟨s0, s1, s2, s3, rfl, hs, hB⟩
  obtain ⟨rfl, rfl, rfl, rfl⟩ := hs.eq hp rfl
  exact ⟨rfl, hB⟩
theorem eqw_same (a0 a1 a2 a3 : Int) (W : World) : Sem.run Tryz.prog (Op.equalIn 10000 24 (.agg #[.int .u64 a0, .int .u64 a1, .int .u64 a2, .int .u64 a3]) (.agg #[.int .u64 a0, .int .u64 a1, .int .u64 a2, .int .u64 a3])) W = .ok true W := by
  rw [eqw_run]; simp [eqw]
/-- the operation at a place of a region that is written out -/
theorem op0 {x : Oper} {r : List Oper} : (x :: r).toArray[0]? = some x := rfl
theorem op1 {a x : Oper} {r : List Oper} : (a :: x :: r).toArray[1]? = some x := rfl
theorem op2 {a b x : Oper} {r : List Oper} : (a :: b :: x :: r).toArray[2]? = some x := rfl
theorem op3 {a b c x : Oper} {r : List Oper} : (a :: b :: c :: x :: r).toArray[3]? = some x := rfl
theorem op4 {a b c d x : Oper} {r : List Oper} : (a :: b :: c :: d :: x :: r).toArray[4]? = some x := rfl
theorem op5 {a b c d e x : Oper} {r : List Oper} : (a :: b :: c :: d :: e :: x :: r).toArray[5]? = some x := rfl
theorem op6 {a b c d e f x : Oper} {r : List Oper} : (a :: b :: c :: d :: e :: f :: x :: r).toArray[6]? = some x := rfl
theorem op7 {a b c d e f g x : Oper} {r : List Oper} : (a :: b :: c :: d :: e :: f :: g :: x :: r).toArray[7]? = some x := rfl
theorem op8 {a b c d e f g h x : Oper} {r : List Oper} : (a :: b :: c :: d :: e :: f :: g :: h :: x :: r).toArray[8]? = some x := rfl
theorem op9 {a b c d e f g h i x : Oper} {r : List Oper} : (a :: b :: c :: d :: e :: f :: g :: h :: i :: x :: r).toArray[9]? = some x := rfl
theorem op10 {a b c d e f g h i j x : Oper} {r : List Oper} : (a :: b :: c :: d :: e :: f :: g :: h :: i :: j :: x :: r).toArray[10]? = some x := rfl
theorem op11 {a b c d e f g h i j k x : Oper} {r : List Oper} : (a :: b :: c :: d :: e :: f :: g :: h :: i :: j :: k :: x :: r).toArray[11]? = some x := rfl
theorem op12 {a b c d e f g h i j k l x : Oper} {r : List Oper} : (a :: b :: c :: d :: e :: f :: g :: h :: i :: j :: k :: l :: x :: r).toArray[12]? = some x := rfl
theorem op13 {a b c d e f g h i j k l m x : Oper} {r : List Oper} : (a :: b :: c :: d :: e :: f :: g :: h :: i :: j :: k :: l :: m :: x :: r).toArray[13]? = some x := rfl
theorem op14 {a b c d e f g h i j k l m n x : Oper} {r : List Oper} : (a :: b :: c :: d :: e :: f :: g :: h :: i :: j :: k :: l :: m :: n :: x :: r).toArray[14]? = some x := rfl
theorem op15 {a b c d e f g h i j k l m n o x : Oper} {r : List Oper} : (a :: b :: c :: d :: e :: f :: g :: h :: i :: j :: k :: l :: m :: n :: o :: x :: r).toArray[15]? = some x := rfl
end Go.Proofs.YtpadpmkfhljiiaaGreat
/- The document's 'small', 'cut', 'bit', 'word'. -/
namespace Go.Proofs.YtpadpmkfhljiiaaGreat
open Go.RowKit
theorem dsum_split (d : Nat → Nat) (a : Nat) : ∀ b, dsum d (a + b) = dsum d a + 256 ^ a * dsum (fun r => d (a + r)) b
  | 0 => by simp [dsum]
  | b + 1 => by
    rw [← Nat.add_assoc, dsum, dsum_split d a b, dsum, Nat.mul_add, Nat.pow_add]
    have : d (a + b) * (256 ^ a * 256 ^ b) = 256 ^ a * (d (a + b) * 256 ^ b) := by rw [Nat.mul_left_comm]
    omega
theorem dsum_front (d : Nat → Nat) (k : Nat) : dsum d (k + 1) = d 0 + 256 * dsum (fun r => d (1 + r)) k := by
  have := dsum_split d 1 k
  rw [Nat.add_comm 1 k] at this
  rw [this]; simp [dsum]
theorem dsum_mod {d : Nat → Nat} (hd : ∀ i, d i < 256) (n c : Nat) : dsum d n % 256 ^ c = dsum (fun i => if i < c then d i else 0) n := by
  by_cases h : n ≤ c
  · have h1 := dsum_lt hd n
    have h2 : 256 ^ n ≤ 256 ^ c := Nat.pow_le_pow_right (by omega) h
    rw [Nat.mod_eq_of_lt (by omega)]
    exact dsum_ext n fun i hi => by rw [if_pos (by omega)]
  · obtain ⟨b, rfl⟩ : ∃ b, n = c + b := ⟨n - c, by omega⟩
    rw [dsum_split, Nat.add_mul_mod_self_left, Nat.mod_eq_of_lt (dsum_lt hd c)]
    rw [dsum_more (n := c) (fun i hi => by simp only [show ¬ (i < c) by omega, if_false]) (c + b) (by omega)]
    exact dsum_ext c fun i hi => by rw [if_pos hi]
def cutD (d : Nat → Nat) (c i : Nat) : Nat := if i < c then d i else 0
def oneD (i : Nat) : Nat := if i = 0 then 1 else 0
theorem cutD_lt {d : Nat → Nat} (hd : ∀ i, d i < 256) (c i : Nat) : cutD d c i < 256 := by unfold cutD; split; exact hd i; omega
theorem cutD_sum {d : Nat → Nat} (hd : ∀ i, d i < 256) (n c : Nat) : dsum (cutD d c) n = dsum d n % 256 ^ c := (dsum_mod hd n c).symm
set_option maxHeartbeats 1000000 in
set_option maxRecDepth 100000 in
/-- small(1) -/
theorem small1_is (w : World) : Calls Tryz.prog 108 #[.int .i64 1] w fun e w' => ∃ v, e = .returned v ∧ RowAt w' v 1 oneD ∧ Below w.heap.size w w' := by
  obtain ⟨i0, hi, hz0, hz1, hz2⟩ := info_parts Tryz.infoI
  have t1 : Int.tmod 1 256 = 1 := by decide
  have t2 : Int.tdiv 1 256 = 0 := by decide
  have N0 : Hid (w.ownsRow w.heap.size 3 1 (.slice none 0 0) 0 []) := World.ownsRow_nil _ _ _ _
  go_enter Tryz.func108, Tryz.ntmps108
  go_wp2
  refine wp_loop_rounds 3 ?_
  rw [rounds_succ]
  go_wp2_with (at_builtin; refine wpList_append_own _ rfl _ _ 61 rfl w.heap.size 3 i0 (.int .i64 0) 1 8 Tryz.underlying61 hi hz0 hz1 hz2 rfl (by decide) _ _ _ rfl (World.ownsRow.alloc N0.out _) ⟨w.heap.size, 0, none⟩ 1 1 [.int .i64 1] rfl rfl (fun j u hj => (by have hj0 : j = 0 := (by have := (List.getElem?_eq_some_iff.1 hj).1; simpa using this); subst hj0; simp at hj; subst hj; simp [Addr.add])) (fun u hu => (by rw [List.mem_singleton.1 hu]; rfl)) (by unfold maxLen; omega) (by omega) (by simp) ?_; intro v' w1 hown' hgrow _)
  have R : Hid (w1.ownsRow w.heap.size 3 1 v' 1 (intsD oneD 1)) := by unfold Hid; simpa [intsD, oneD] using hown'
  have B1 : Hid (Below w.heap.size w w1) := Below.grown ((Below.refl _ _).alloc (Nat.le_refl _) _) hgrow (by simp) (fun k h => by cases h)
  clear hown' hgrow
  go_wp2
  rw [rounds_succ]
  go_wp2
  go_ret
  exact ⟨_, rfl, RowAt.own R.out (fun i => by unfold oneD; split <;> omega) (fun i hi => by unfold oneD; rw [if_neg (by omega)]) (by omega), B1.out⟩
set_option maxHeartbeats 1000000 in
set_option maxRecDepth 100000 in
/-- the first c digits -/
theorem cut_is (w : World) (v : Value) (n : Nat) (d : Nat → Nat) (hv : RowAt w v n d) (c : Nat) (hc : c ≤ 1048576) :
    Calls Tryz.prog 133 #[v, .int .i64 (c : Int)] w fun e w' => ∃ u, e = .returned u ∧ RowAt w' u (min c n) (cutD d c) ∧ Below w.heap.size w w' := by
  obtain ⟨K, eK⟩ : ∃ K, K = min c n := ⟨_, rfl⟩
  rw [← eK]
  have EK : Hid (K = min c n) := eK
  obtain ⟨hz, hd, hn, ad, cap, rfl, hcc⟩ := hv
  obtain ⟨i0, hi, hz0, hz1, hz2⟩ := info_parts Tryz.infoI
  have HC : Hid _ := hcc
  have HZ : Hid _ := hz
  have HD : Hid _ := hd
  have cI : (c : Int) ≤ 1048576 := by omega
  have nI : (n : Int) ≤ 1073741824 := by omega
  have kI0 : K ≤ 1048576 := by omega
  clear hcc hz hd eK
  go_enter Tryz.func133, Tryz.ntmps133
  go_wp2
  go_loopw [5, 6] (fun s5 i wr => ∃ k : Nat, k ≤ K ∧ i = .int .i64 k ∧ wr.ownsRow w.heap.size 3 1 s5 k (intsD (cutD d c) k) ∧ Below w.heap.size w wr) (fun _ i _ => K - (intOf i).toNat)
  case atStart => exact ⟨0, by omega, rfl, World.ownsRow_nil _ _ _ _, Below.refl _ _⟩
  case round =>
    obtain ⟨k, hk, rfl, hown, hB⟩ := hrel
    have HOW : Hid _ := hown
    have HB : Hid _ := hB
    have b0 := hB.size
    by_cases hk5 : k < K
    · have kI : (k : Int) < (c : Int) := by have := EK.out; omega
      have kI2 : (k : Int) < (n : Int) := by have := EK.out; omega
      have kn : k < n := by omega
      obtain ⟨g, o, rfl, hcl⟩ := HC.out (by omega)
      have cell := (hB.cell (p := ⟨g, o + k, none⟩) (World.block_lt_of_cell? w _ (hcl k (by omega)))).trans (hcl k (by omega))
      obtain ⟨y, ey⟩ : ∃ y, y = d k := ⟨_, rfl⟩
      rw [← ey] at cell
      have EY : Hid (y = (cutD d c) k) := by unfold Hid cutD; rw [if_pos (by omega)]; exact ey
      clear hown hB hcl ey
      go_wp2_with (at_builtin; refine wpList_append_own _ rfl _ _ 61 rfl w.heap.size 3 i0 (.int .i64 0) 1 8 Tryz.underlying61 hi hz0 hz1 hz2 rfl (by decide) _ _ _ rfl (World.ownsRow.alloc HOW.out _) ⟨wr.heap.size, 0, none⟩ 1 1 [.int .i64 (y : Int)] rfl rfl (fun j u hj => (by have hj0 : j = 0 := (by have := (List.getElem?_eq_some_iff.1 hj).1; simpa using this); subst hj0; simp at hj; subst hj; simp [Addr.add])) (fun u hu => (by rw [List.mem_singleton.1 hu]; rfl)) (by unfold maxLen; omega) (by omega) (by simp; omega) ?_; intro v' w1 hown' hgrow _)
      have R : Hid _ := of_step EY.out HOW.out HB.out hown' hgrow
      clear hown' hgrow
      go_wp2
      go_roundw
      case rel => exact ⟨k + 1, by omega, by go_num, R.out⟩
      case measure => simp [intOf]; omega
    · obtain rfl : k = K := by omega
      clear hown hB
      have FIN : Hid (RowAt wr u5 k (cutD d c)) := RowAt.own HOW.out (cutD_lt HD.out c) (fun i hi => by
        unfold cutD
        by_cases q : i < c
        · rw [if_pos q]; exact HZ.out i (by have := EK.out; omega)
        · rw [if_neg q]) (by omega)
      by_cases hcn : n < c
      · have k1 : (k : Int) < (c : Int) := by have := EK.out; omega
        have k2 : ¬ ((k : Int) < (n : Int)) := by have := EK.out; omega
        go_wp2
        go_ret
        exact ⟨_, rfl, FIN.out, HB.out⟩
      · have k1 : ¬ ((k : Int) < (c : Int)) := by have := EK.out; omega
        go_wp2
        go_ret
        exact ⟨_, rfl, FIN.out, HB.out⟩
end Go.Proofs.YtpadpmkfhljiiaaGreat
/- The document's 'times': the plain product of two rows. -/
namespace Go.Proofs.YtpadpmkfhljiiaaGreat
open Go.RowKit
/-- cells of numbers, which may be written -/
def RowI (W : World) (g N : Nat) (f : Nat → Nat) : Prop := ∀ j, j < N → W.cell? ⟨g, j, none⟩ = some (.int .i64 (f j : Int)) ∧ W.frozen? ⟨g, j, none⟩ = false
theorem RowI.lt {W : World} {g N : Nat} {f : Nat → Nat} (h : RowI W g N f) (hN : 0 < N) : g < W.heap.size := World.block_lt_of_cell? W _ (h 0 hN).1
/-- one digit is turned -/
def setD (f : Nat → Nat) (s y : Nat) (j : Nat) : Nat := if j = s then y else f j
theorem RowI.set {w : World} {g N : Nat} {f : Nat → Nat} (h : RowI w g N f) (s y : Nat) : RowI (w.setCell ⟨g, s, none⟩ (.int .i64 (y : Int))) g N (setD f s y) := fun j hj => by
  refine ⟨?_, by rw [World.frozen?_setCell]; exact (h j hj).2⟩
  unfold setD
  by_cases e : j = s
  · subst e; rw [World.cell?_setCell_same _ _ _ (h j hj).1, if_pos rfl]
  · rw [World.cell?_setCell_other _ _ _ _ (by intro e'; injection e' with _ e' _; exact e e'.symm), if_neg e]; exact (h j hj).1
theorem dsum_set (f : Nat → Nat) (s y : Nat) : ∀ N, s < N → dsum (setD f s y) N + f s * 256 ^ s = dsum f N + y * 256 ^ s
  | 0, h => absurd h (by omega)
  | N + 1, h => by
    by_cases e : s = N
    · subst e
      rw [dsum, dsum, dsum_ext s (d := setD f s y) (e := f) (fun i hi => by unfold setD; rw [if_neg (by omega)])]
      simp only [setD, if_true]; omega
    · have := dsum_set f s y N (by omega)
      rw [dsum, dsum, show setD f s y N = f N by unfold setD; rw [if_neg (by omega)]]; omega
/-- the step of the product -/
theorem times_step {P D x c nn i k N : Nat} {f e : Nat → Nat} (hs : i + k < N) (hx : x = f (i + k)) (hnn : nn = x + D * e k + c) (h : dsum f N + c * 256 ^ (i + k) = P + D * 256 ^ i * dsum e k) :
    dsum (setD f (i + k) (nn % 256)) N + nn / 256 * 256 ^ (i + (k + 1)) = P + D * 256 ^ i * dsum e (k + 1) := by
  have h1 := dsum_set f (i + k) (nn % 256) N hs
  have h2 : nn / 256 * 256 ^ (i + (k + 1)) + nn % 256 * 256 ^ (i + k) = nn * 256 ^ (i + k) := by
    rw [show i + (k + 1) = (i + k) + 1 by omega, Nat.pow_succ, Nat.mul_comm (256 ^ (i + k)) 256, ← Nat.mul_assoc, ← Nat.add_mul]
    congr 1; omega
  have h3 : nn * 256 ^ (i + k) = f (i + k) * 256 ^ (i + k) + D * e k * 256 ^ (i + k) + c * 256 ^ (i + k) := by rw [hnn, hx, Nat.add_mul, Nat.add_mul]
  have h4 : D * 256 ^ i * dsum e (k + 1) = D * 256 ^ i * dsum e k + D * e k * 256 ^ (i + k) := by
    rw [dsum, Nat.mul_add, Nat.pow_add]
    congr 1
    rw [Nat.mul_assoc, Nat.mul_assoc, Nat.mul_left_comm (256 ^ i)]
  omega
theorem times_end {n m i c : Nat} {d e f : Nat → Nat} (N : Nat) (hd : ∀ i, d i < 256) (he : ∀ i, e i < 256) (hz : e m = 0) (h : dsum f N + c * 256 ^ (i + (m + 1)) = dsum d i * dsum e m + d i * 256 ^ i * dsum e (m + 1)) (_hn : i < n) :
    dsum f N = dsum d (i + 1) * dsum e m := by
  have e1 : dsum e (m + 1) = dsum e m := by rw [dsum, hz]; simp
  rw [e1, ← Nat.add_mul] at h
  have e2 : dsum d (i + 1) = dsum d i + d i * 256 ^ i := rfl
  rw [← e2] at h
  have b1 := dsum_lt hd (i + 1)
  have b2 := dsum_lt he m
  have b3 : dsum d (i + 1) * dsum e m < 256 ^ (i + (m + 1)) := by
    rw [show i + (m + 1) = (i + 1) + m by omega, Nat.pow_add]
    exact Nat.mul_lt_mul'' b1 b2
  rcases Nat.eq_zero_or_pos c with hc | hc
  · rw [hc] at h; omega
  · have : 1 * 256 ^ (i + (m + 1)) ≤ c * 256 ^ (i + (m + 1)) := Nat.mul_le_mul_right _ hc
    omega
theorem setD_lt {f : Nat → Nat} (hf : ∀ i, f i < 256) (s y i : Nat) (hy : y < 256) : setD f s y i < 256 := by unfold setD; split; exact hy; exact hf i
theorem RowAt.ofRowI {W : World} {g N c : Nat} {f : Nat → Nat} (h : RowI W g N f) (hf : ∀ i, f i < 256) (hN : N ≤ 1073741824) : RowAt W (.slice (some ⟨g, 0, none⟩) N c) N (cutD f N) :=
  ⟨fun i hi => by unfold cutD; rw [if_neg (by omega)], cutD_lt hf N, hN, _, c, rfl, fun _ => ⟨g, 0, rfl, fun i hi => by rw [Nat.zero_add, (h i hi).1]; unfold cutD; rw [if_pos hi]⟩⟩
theorem cutD_same (f : Nat → Nat) (N : Nat) : dsum (cutD f N) N = dsum f N := dsum_ext N fun i hi => by unfold cutD; rw [if_pos hi]
theorem made_at (N j : Nat) (h : j < N) : (madeCells #[Value.int .i64 0] (N * 1)).toList[j]? = some (.int .i64 0) := by
  simp [madeCells, h, Nat.mod_one]
theorem RowI.made {w1 : World} {B g N : Nat} (h : w1.ownsRow B 3 1 (.slice (some ⟨g, 0, none⟩) N N) N (madeCells #[Value.int .i64 0] (N * 1)).toList) : RowI w1 g N (fun _ => 0) := fun j hj =>
  ⟨by rw [h.cellAt j (by omega), made_at N j hj]; rfl, h.frozenAt j⟩
set_option maxHeartbeats 4000000 in
set_option maxRecDepth 100000 in
theorem times_is (w : World) (v u : Value) (n m : Nat) (d e : Nat → Nat) (hv : RowAt w v n d) (hu : RowAt w u m e) (hn : n ≤ 1000) (hm : m ≤ 1000) :
    Calls Tryz.prog 85 #[v, u] w fun r w' => ∃ x f, r = .returned x ∧ RowAt w' x (n + m + 1) f ∧ dsum f (n + m + 1) = dsum d n * dsum e m ∧ Below w.heap.size w w' := by
  have HV : Hid (RowAt w v n d) := hv
  have HU : Hid (RowAt w u m e) := hu
  obtain ⟨hz, hd, _, ad, cap, rfl, hc⟩ := hv
  obtain ⟨hz', hd', _, bd, cap', rfl, _⟩ := hu
  obtain ⟨i0, hi, hz0, hz1, hz2⟩ := info_parts Tryz.infoI
  have HC : Hid _ := hc
  have HD : Hid _ := hd
  have HE : Hid _ := hd'
  have HZ : Hid (e m = 0) := hz' m (Nat.le_refl _)
  obtain ⟨N, eN⟩ : ∃ N, N = n + m + 1 := ⟨_, rfl⟩
  rw [← eN]
  have ENN : Hid (N = n + m + 1) := eN
  obtain ⟨nm, enm⟩ : ∃ nm, nm = n + m := ⟨_, rfl⟩
  have a1 : (n : Int) + (m : Int) = (nm : Int) := by omega
  have a2 : (nm : Int) + 1 = (N : Int) := by omega
  have w1 : IntKind.i64.wrap (nm : Int) = (nm : Int) := by rw [IntKind.wrap_i64]; omega
  have w2 : IntKind.i64.wrap (N : Int) = (N : Int) := by rw [IntKind.wrap_i64]; omega
  have nI : (n : Int) ≤ 1000 := by omega
  have mI : (m : Int) ≤ 1000 := by omega
  have NI : N ≤ 2001 := by omega
  have N0 : 0 < N := by omega
  clear hz hz' hd hd' hc eN enm
  go_enter Tryz.func85, Tryz.ntmps85
  go_upto_region 2 with (at_make; refine wpList_make_full _ rfl _ _ 61 rfl w.heap.size 3 i0 (.int .i64 0) 1 Tryz.underlying61 hi hz0 hz1 .i64 .i64 _ _ N rfl rfl rfl rfl (by rw [hz2]; omega) (by unfold maxLen; omega) (Nat.le_refl _) ?_; intro v1 hown hgrow; (have R1 : Hid (RowI v1 w.heap.size N (fun _ => 0)) := RowI.made hown); (have B1 : Hid (Below w.heap.size w v1) := Below.grown (Below.refl _ _) hgrow (Nat.le_refl _) (fun k h => by cases h)); clear hown hgrow)
  go_wp2
  generalize hg : w.heap.size = g at R1 ⊢
  have HG : Hid (w.heap.size = g) := hg
  clear hg
  go_loopw [6] (fun s wr => ∃ (i : Nat) (f : Nat → Nat), i ≤ n ∧ s = .int .i64 i ∧ (∀ j, f j < 256) ∧ dsum f N = dsum d i * dsum e m ∧ RowI wr g N f ∧ Below w.heap.size w wr) (fun s _ => n - (intOf s).toNat)
  case atStart => exact ⟨0, fun _ => 0, by omega, rfl, fun _ => (by decide : (0 : Nat) < 256), by rw [dsum_zero N (fun _ _ => rfl)]; simp [dsum], R1.out, B1.out⟩
  case round =>
    obtain ⟨i, f, hin, rfl, hf, hs, hR, hB⟩ := hrel
    clear R1 B1
    by_cases hi5 : i < n
    · have iI : (i : Int) < (n : Int) := by omega
      have F0 : Hid _ := hf
      have S0 : Hid _ := hs
      have RR : Hid _ := hR
      have BB : Hid _ := hB
      obtain ⟨P, eP⟩ : ∃ P, P = dsum d i * dsum e m := ⟨_, rfl⟩
      obtain ⟨D, eD⟩ : ∃ D, D = d i := ⟨_, rfl⟩
      have D256 : D < 256 := by rw [eD]; exact HD.out i
      have EP : Hid (P = dsum d i * dsum e m) := eP
      have ED : Hid (D = d i) := eD
      obtain ⟨ga, oa, rfl, hcl⟩ := HC.out (by omega)
      have ca0 := hcl i hi5
      rw [← eD] at ca0
      have gal := World.block_lt_of_cell? w _ ca0
      have CA : Hid _ := ca0
      clear hf hs hR hB hcl eP eD
      go_wp2
      go_loopw [7, 8] (fun sc sk wx => ∃ (k c : Nat) (f : Nat → Nat), k ≤ m + 1 ∧ c < 256 ∧ sc = .int .i64 c ∧ sk = .int .i64 k ∧ (∀ j, f j < 256) ∧ dsum f N + c * 256 ^ (i + k) = P + D * 256 ^ i * dsum e k ∧ RowI wx g N f ∧ Below w.heap.size w wx) (fun _ sk _ => m + 1 - (intOf sk).toNat)
      case atStart => exact ⟨0, 0, f, by omega, by omega, rfl, rfl, F0.out, by rw [EP.out, S0.out]; simp [dsum], RR.out, BB.out⟩
      case round =>
        obtain ⟨k, c, h, hk, hc, rfl, rfl, hh, hs, hR, hB⟩ := hrel
        clear F0 S0 RR BB
        have HH : Hid (∀ j, h j < 256) := hh
        have HS : Hid _ := hs
        have HR : Hid (RowI wr g N h) := hR
        have HB : Hid (Below w.heap.size w wr) := hB
        by_cases hkm : k < m + 1
        · have kI : (k : Int) ≤ (m : Int) := by omega
          obtain ⟨s, es⟩ : ∃ s, s = i + k := ⟨_, rfl⟩
          have a3 : (i : Int) + (k : Int) = (s : Int) := by omega
          have w3 : IntKind.i64.wrap (s : Int) = (s : Int) := by rw [IntKind.wrap_i64]; omega
          have sN : s < N := by have := ENN.out; omega
          have sI : (s : Int) < (N : Int) := by omega
          obtain ⟨x, ex⟩ : ∃ x, x = h s := ⟨_, rfl⟩
          obtain ⟨y, ey⟩ : ∃ y, y = e k := ⟨_, rfl⟩
          have cx := (hR s sN).1
          have fx := (hR s sN).2
          rw [← ex] at cx
          have ca := (hB.cell (p := ⟨ga, oa + i, none⟩) gal).trans CA.out
          have DG : Hid (∀ W : World, Below w.heap.size w W → Calls Tryz.prog 123 #[.slice bd m cap', .int .i64 (k : Int)] W fun e w' => e = .returned (.int .i64 (y : Int)) ∧ w' = W) := fun W hW => by rw [ey]; exact digit_is W _ m e k (HU.out.below hW)
          have x256 : x < 256 := by rw [ex]; exact hh s
          have y256 : y < 256 := by rw [ey]; exact HE.out k
          obtain ⟨p, ep⟩ : ∃ p, p = D * y := ⟨_, rfl⟩
          have pb : p ≤ 65025 := by rw [ep]; exact Nat.mul_le_mul (show D ≤ 255 by omega) (show y ≤ 255 by omega)
          obtain ⟨nn, enn⟩ : ∃ nn, nn = x + p + c := ⟨_, rfl⟩
          have STEP : Hid (dsum (setD h s (nn % 256)) N + nn / 256 * 256 ^ (i + (k + 1)) = P + D * 256 ^ i * dsum e (k + 1)) := by
            have := times_step (f := h) (e := e) (P := P) (D := D) (x := x) (c := c) (nn := nn) (i := i) (k := k) (N := N) (by omega) (by rw [ex, es]) (by rw [enn, ep, ey]) HS.out
            unfold Hid
            rw [es]; exact this
          have b1 : (D : Int) * (y : Int) = (p : Int) := by rw [ep]; exact (Int.natCast_mul D y).symm
          have b2 : IntKind.i64.wrap (p : Int) = (p : Int) := by rw [IntKind.wrap_i64]; omega
          have b3 : (x : Int) + (p : Int) + (c : Int) = (nn : Int) := by omega
          have b4 : IntKind.i64.wrap (nn : Int) = (nn : Int) := by rw [IntKind.wrap_i64]; omega
          have b5 : IntKind.i64.wrap ((x : Int) + (p : Int)) = (x : Int) + (p : Int) := by rw [IntKind.wrap_i64]; omega
          have b6 : Int.tmod (nn : Int) 256 = ((nn % 256 : Nat) : Int) := by rw [Int.tmod_eq_emod_of_nonneg (by omega)]; omega
          have b7 : Int.tdiv (nn : Int) 256 = ((nn / 256 : Nat) : Int) := by rw [Int.tdiv_eq_ediv_of_nonneg (by omega)]; omega
          have nb : nn ≤ 65535 := by omega
          obtain ⟨r, er⟩ : ∃ r, r = nn % 256 := ⟨_, rfl⟩
          obtain ⟨c', ec'⟩ : ∃ c', c' = nn / 256 := ⟨_, rfl⟩
          rw [← er] at b6 STEP
          rw [← ec'] at b7 STEP
          have b8 : IntKind.i64.wrap (r : Int) = (r : Int) := by rw [IntKind.wrap_i64]; omega
          have b9 : IntKind.i64.wrap (c' : Int) = (c' : Int) := by rw [IntKind.wrap_i64]; omega
          have r256 : r < 256 := by omega
          have c256 : c' < 256 := by omega
          have nnI : (nn : Int) ≤ 65535 := by omega
          clear er ec' enn ep ex ey es hs hh hR hB pb
          go_upto_region 9 with fail
          go_quiet ((go_at_call 123; exact Calls.quiet_of_same (DG.out _ (bdrewN HB.out _))))
          go_wp2
          go_roundw
          case rel => exact ⟨k + 1, c', setD h s r, by omega, c256, rfl, by go_num, fun j => setD_lt HH.out s r j r256, STEP.out, RowI.set (fun j hj => HR.out j hj) s r, Below.setCell (bdrewN HB.out nq) (Nat.le_of_eq HG.out) _⟩
          case measure => simp [intOf]; omega
        · obtain rfl : k = m + 1 := by omega
          have kI : ¬ (((m + 1 : Nat) : Int) ≤ (m : Int)) := by omega
          have FSu : Hid (dsum h N = dsum d (i + 1) * dsum e m) := times_end (n := n) N HD.out HE.out HZ.out (by rw [← ED.out, ← EP.out]; exact HS.out) hi5
          clear hs hh hR hB HS
          go_wp2
          go_roundw
          case rel => exact ⟨i + 1, h, by omega, by go_num, HH.out, FSu.out, HR.out, HB.out⟩
          case measure => simp [intOf]; omega
    · obtain rfl : i = n := by omega
      have iI : ¬ ((i : Int) < (i : Int)) := by omega
      have F0 : Hid _ := hf
      have S0 : Hid _ := hs
      have RR : Hid (RowI wr g N f) := hR
      have BB : Hid _ := hB
      clear hf hs hR hB
      go_wp2
      go_ret
      exact ⟨_, rfl, cutD f N, RowAt.ofRowI RR.out F0.out (by omega), by rw [cutD_same]; exact S0.out, BB.out⟩
end Go.Proofs.YtpadpmkfhljiiaaGreat
/- Numbers of many parts of 64 bits, and what a long division reckons: no condition, no Go text. -/
namespace Go.Proofs.YtpadpmkfhljiiaaGreat
theorem Bd_pos : 0 < Bd := by unfold Bd; omega
theorem Bp (n : Nat) : (0 : Int) < Bd ^ n := Int.pow_pos Bd_pos
/-- the number of the first n parts -/
def nv (r : Nat → Int) : Nat → Int
  | 0 => 0
  | n + 1 => nv r n + r n * Bd ^ n
/-- the parts from k on -/
def sh (r : Nat → Int) (k : Nat) (i : Nat) : Int := r (k + i)
theorem nv_range {r : Nat → Int} (h : ∀ i, U64 (r i)) : ∀ n, 0 ≤ nv r n ∧ nv r n < Bd ^ n
  | 0 => by simp [nv]
  | n + 1 => by
    obtain ⟨h1, h2⟩ := nv_range h n
    have h3 := Bp n
    have h4 : (r n + 1) * Bd ^ n ≤ Bd * Bd ^ n := Int.mul_le_mul_of_nonneg_right (h n).2 (Int.le_of_lt h3)
    have h5 : 0 ≤ r n * Bd ^ n := Int.mul_nonneg (h n).1 (Int.le_of_lt h3)
    rw [Int.add_mul, Int.one_mul] at h4
    rw [nv, Int.pow_succ, Int.mul_comm (Bd ^ n) Bd]; omega
theorem nv_ext {r s : Nat → Int} : ∀ n, (∀ i, i < n → r i = s i) → nv r n = nv s n
  | 0, _ => rfl
  | n + 1, h => by rw [nv, nv, nv_ext n (fun i hi => h i (by omega)), h n (by omega)]
theorem nv_split (r : Nat → Int) (a : Nat) : ∀ k, nv r (a + k) = nv r a + Bd ^ a * nv (sh r a) k
  | 0 => by simp [nv]
  | k + 1 => by
    rw [← Nat.add_assoc, nv, nv_split r a k, nv, Int.mul_add, Int.pow_add]
    show _ = _ + (_ + Bd ^ a * (r (a + k) * Bd ^ k))
    rw [Int.mul_left_comm (Bd ^ a)]; omega
theorem nv_zero {r : Nat → Int} : ∀ n, (∀ i, i < n → r i = 0) → nv r n = 0
  | 0, _ => rfl
  | n + 1, h => by rw [nv, nv_zero n (fun i hi => h i (by omega)), h n (by omega)]; simp
theorem nv_more {r : Nat → Int} (n m : Nat) (h : n ≤ m) (hz : ∀ i, n ≤ i → i < m → r i = 0) : nv r m = nv r n := by
  obtain ⟨k, rfl⟩ := Nat.exists_eq_add_of_le h
  have hz' : nv (sh r n) k = 0 := nv_zero k (fun i hi => hz _ (by omega) (by omega))
  rw [nv_split, hz']; simp
theorem nv_set (q : Nat → Int) (k : Nat) (d : Int) : ∀ n, k < n → q k = 0 → nv (fun i => if i = k then d else q i) n = nv q n + d * Bd ^ k
  | 0, h, _ => absurd h (by omega)
  | n + 1, h, h0 => by
    by_cases e : k = n
    · subst e
      have hx : nv (fun i => if i = k then d else q i) k = nv q k := nv_ext k (fun i hi => if_neg (by omega))
      rw [nv, nv, hx, h0]; simp
    · rw [nv, nv, nv_set q k d n (by omega) h0]
      simp only [if_neg (fun h' : n = k => e h'.symm)]; omega
theorem nv4 (a0 a1 a2 a3 : Int) : nv (limb a0 a1 a2 a3) 4 = V a0 a1 a2 a3 := by
  simp [nv, limb, V, Bd]; omega
theorem sh_u64 {r : Nat → Int} (h : ∀ i, U64 (r i)) (k : Nat) : ∀ i, U64 (sh r k i) := fun i => h (k + i)
/-- what is below a power has no parts from there on -/
theorem nv_top {r : Nat → Int} (h : ∀ i, U64 (r i)) (a k : Nat) (hl : nv r (a + k) < Bd ^ a) : nv (sh r a) k = 0 := by
  have h1 := (nv_range (sh_u64 h a) k).1
  have h2 := (nv_range h a).1
  rw [nv_split] at hl
  by_cases e : nv (sh r a) k = 0
  · exact e
  · have h3 : Bd ^ a * 1 ≤ Bd ^ a * nv (sh r a) k := Int.mul_le_mul_of_nonneg_left (by omega) (Int.le_of_lt (Bp a))
    omega
/-- a column of the division: behind it stand n + 1 parts, the divisor's number is D -/
structure Col (r : Nat → Int) (n a : Nat) (D : Int) : Prop where
  u : ∀ i, U64 (r i)
  d0 : 0 < D
  dn : D < Bd ^ n
  lt : nv r 9 < D * Bd ^ (a + 1)
  fits : a + n < 9
theorem Col.high {r : Nat → Int} {n a : Nat} {D : Int} (c : Col r n a D) : nv (sh r (a + n + 1)) (8 - a - n) = 0 := by
  have hf := c.fits
  refine nv_top c.u _ _ ?_
  rw [show a + n + 1 + (8 - a - n) = 9 by omega]
  refine Int.lt_of_lt_of_le c.lt ?_
  have := Int.mul_le_mul_of_nonneg_right (Int.le_of_lt c.dn) (Int.le_of_lt (Bp (a + 1)))
  rw [← Int.pow_add] at this
  rwa [show a + n + 1 = n + (a + 1) by omega]
theorem nv_three (r : Nat → Int) (n a : Nat) (h : a + n < 9) (hz : nv (sh r (a + n + 1)) (8 - a - n) = 0) : nv r 9 = nv r a + Bd ^ a * nv (sh r a) (n + 1) := by
  have h1 := nv_split r (a + n + 1) (8 - a - n)
  rw [show a + n + 1 + (8 - a - n) = 9 by omega, hz] at h1
  rw [h1, show a + n + 1 = a + (n + 1) by omega, nv_split]; simp
theorem Col.whole {r : Nat → Int} {n a : Nat} {D : Int} (c : Col r n a D) : nv r 9 = nv r a + Bd ^ a * nv (sh r a) (n + 1) := nv_three r n a c.fits c.high
theorem Col.below {r : Nat → Int} {n a : Nat} {D : Int} (c : Col r n a D) : 0 ≤ nv (sh r a) (n + 1) ∧ nv (sh r a) (n + 1) < D * Bd := by
  refine ⟨(nv_range (sh_u64 c.u a) _).1, ?_⟩
  have h1 := c.whole
  have h2 := c.lt
  have h3 := (nv_range c.u a).1
  rw [h1, Int.pow_succ, Int.mul_comm (Bd ^ a) Bd, ← Int.mul_assoc, Int.mul_comm (D * Bd) (Bd ^ a)] at h2
  exact Int.lt_of_mul_lt_mul_left (show Bd ^ a * nv (sh r a) (n + 1) < Bd ^ a * (D * Bd) by omega) (Int.le_of_lt (Bp a))
theorem Col.digit {r : Nat → Int} {n a : Nat} {D : Int} (c : Col r n a D) : 0 ≤ nv (sh r a) (n + 1) / D ∧ nv (sh r a) (n + 1) / D < Bd := by
  have h := c.below
  exact ⟨Int.ediv_nonneg h.1 (Int.le_of_lt c.d0), Int.ediv_lt_of_lt_mul c.d0 (by rw [Int.mul_comm]; exact h.2)⟩
/-- the guess: of the highest two parts by the divisor's highest -/
theorem Col.guess {r d : Nat → Int} {m a : Nat} {D : Int} (c : Col r (m + 1) a D) (hd : ∀ i, U64 (d i)) (hD : D = nv d (m + 1)) : nv (sh r a) (m + 1 + 1) / D * d m ≤ r (a + (m + 1)) * Bd + r (a + m) := by
  have h0 := c.digit.1
  have h1 : nv (sh r a) (m + 1 + 1) / D * D ≤ nv (sh r a) (m + 1 + 1) := Int.ediv_mul_le _ (by have := c.d0; omega)
  have h2 : d m * Bd ^ m ≤ D := by rw [hD, nv]; have := (nv_range hd m).1; omega
  have h3 := (nv_range (sh_u64 c.u a) m).2
  have h4 : nv (sh r a) (m + 1 + 1) = nv (sh r a) m + (r (a + m) + r (a + (m + 1)) * Bd) * Bd ^ m := by
    rw [nv, nv, Int.pow_succ, Int.add_mul, Int.mul_comm (Bd ^ m) Bd, ← Int.mul_assoc]
    show _ + r (a + m) * _ + r (a + (m + 1)) * _ * _ = _
    omega
  generalize nv (sh r a) (m + 1 + 1) / D = k at h0 h1
  have h5 : k * (d m * Bd ^ m) ≤ k * D := Int.mul_le_mul_of_nonneg_left h2 h0
  rw [h4] at h1
  have h6 : Bd ^ m * (k * d m) < Bd ^ m * (r (a + (m + 1)) * Bd + r (a + m) + 1) := by
    rw [Int.mul_add, Int.mul_one, Int.mul_comm (Bd ^ m) (k * d m), Int.mul_assoc, Int.mul_comm (Bd ^ m), Int.add_comm (r (a + (m + 1)) * Bd)]; omega
  have h7 := Int.lt_of_mul_lt_mul_left h6 (Int.le_of_lt (Bp m))
  omega
/-- what is taken off, and what is left: so long as it is there -/
structure Off (r d : Nat → Int) (n a : Nat) (k : Int) (s : Nat → Int) (b : Bool) : Prop where
  u : ∀ i, U64 (s i)
  same : ∀ i, i < a ∨ a + n < i → s i = r i
  yes : b = true → nv (sh r a) (n + 1) = nv (sh s a) (n + 1) + k * nv d n
  no : b = false → nv (sh r a) (n + 1) < k * nv d n
theorem Off.stop {r d s : Nat → Int} {n a : Nat} {k D : Int} (h : Off r d n a k s true) (c : Col r n a D) (hD : D = nv d n) (hk : nv (sh r a) (n + 1) / D ≤ k) : k = nv (sh r a) (n + 1) / D := by
  have h1 := h.yes rfl
  have h2 := (nv_range (sh_u64 h.u a) (n + 1)).1
  rw [← hD] at h1
  have : k ≤ nv (sh r a) (n + 1) / D := Int.le_ediv_of_mul_le c.d0 (by omega)
  omega
theorem Off.down {r d s : Nat → Int} {n a : Nat} {k D : Int} (h : Off r d n a k s false) (c : Col r n a D) (hD : D = nv d n) : nv (sh r a) (n + 1) / D ≤ k - 1 := by
  have h1 := h.no rfl
  rw [← hD] at h1
  have := Int.ediv_lt_of_lt_mul c.d0 h1
  omega
theorem Off.left {r d s : Nat → Int} {n a : Nat} {k D : Int} (h : Off r d n a k s true) (c : Col r n a D) (hD : D = nv d n) (hk : k = nv (sh r a) (n + 1) / D) : nv r 9 = nv s 9 + k * (D * Bd ^ a) ∧ nv s 9 < D * Bd ^ a := by
  have h1 := h.yes rfl
  have hf := c.fits
  have e1 := c.whole
  have hz : nv (sh s (a + n + 1)) (8 - a - n) = 0 := by
    rw [← c.high]; exact nv_ext _ (fun i _ => h.same _ (Or.inr (by omega)))
  have e2 := nv_three s n a hf hz
  have e3 : nv s a = nv r a := nv_ext a (fun i hi => h.same _ (Or.inl hi))
  rw [← hD] at h1
  have h2 : nv (sh s a) (n + 1) = nv (sh r a) (n + 1) % D := by
    have := Int.mul_ediv_add_emod (nv (sh r a) (n + 1)) D
    rw [← hk, Int.mul_comm D k] at this
    omega
  have h3 : nv (sh s a) (n + 1) + 1 ≤ D := by have := Int.emod_lt_of_pos (nv (sh r a) (n + 1)) c.d0; omega
  have h4 := (nv_range c.u a).2
  have h5 := Int.mul_le_mul_of_nonneg_left h3 (Int.le_of_lt (Bp a))
  rw [Int.mul_add, Int.mul_one] at h5
  refine ⟨?_, ?_⟩
  · rw [e1, e2, e3, h1, Int.mul_add, ← Int.mul_assoc k D, Int.mul_comm (k * D) (Bd ^ a)]; omega
  · rw [e2, e3, Int.mul_comm D]; omega
theorem Col.none {r : Nat → Int} {n a : Nat} {D : Int} (c : Col r n a D) (hk : nv (sh r a) (n + 1) / D = 0) : nv r 9 < D * Bd ^ a := by
  have e1 := c.whole
  have h2 : nv (sh r a) (n + 1) + 1 ≤ D := by
    have h3 := Int.mul_ediv_add_emod (nv (sh r a) (n + 1)) D
    have := Int.emod_lt_of_pos (nv (sh r a) (n + 1)) c.d0
    rw [hk, Int.mul_zero] at h3; omega
  have h4 := (nv_range c.u a).2
  have h5 := Int.mul_le_mul_of_nonneg_left h2 (Int.le_of_lt (Bp a))
  rw [Int.mul_add, Int.mul_one] at h5
  rw [e1, Int.mul_comm D]; omega
/-- one part of taking off -/
theorem off_step {r0 r d : Nat → Int} {a i : Nat} {k c b c' b' p s : Int} (h : nv (sh r0 a) i + (b + c) * Bd ^ i = nv (sh r a) i + k * nv d i) (e1 : d i * k + c = c' * Bd + p) (e2 : r0 (a + i) - p - b = s - Bd * b') :
    nv (sh r0 a) (i + 1) + (b' + c') * Bd ^ (i + 1) = nv (sh (fun j => if j = a + i then s else r j) a) (i + 1) + k * nv d (i + 1) := by
  have hx : nv (sh (fun j => if j = a + i then s else r j) a) i = nv (sh r a) i := nv_ext i (fun j hj => by simp only [sh]; rw [if_neg (by omega)])
  have hy : sh (fun j => if j = a + i then s else r j) a i = s := by simp [sh]
  rw [nv, nv, nv, hx, hy, Int.mul_add, ← Int.mul_assoc k, Int.pow_succ]
  show _ + r0 (a + i) * _ + _ = _
  have e3 : r0 (a + i) * Bd ^ i + (b' + c') * (Bd ^ i * Bd) = (s + k * d i + (b + c)) * Bd ^ i := by
    rw [Int.mul_comm (Bd ^ i) Bd, ← Int.mul_assoc, ← Int.add_mul]
    congr 1
    rw [Int.add_mul, Int.mul_comm k (d i), Int.mul_comm b' Bd]
    omega
  have e4 : (s + k * d i + (b + c)) * Bd ^ i = s * Bd ^ i + k * d i * Bd ^ i + (b + c) * Bd ^ i := by rw [Int.add_mul, Int.add_mul]
  rw [e4] at e3
  omega
theorem off_end {r0 r d : Nat → Int} {a n : Nat} {k c b b' s : Int} (h : nv (sh r0 a) n + (b + c) * Bd ^ n = nv (sh r a) n + k * nv d n) (e2 : r0 (a + n) - c - b = s - Bd * b') :
    nv (sh r0 a) (n + 1) + b' * Bd ^ (n + 1) = nv (sh (fun j => if j = a + n then s else r j) a) (n + 1) + k * nv d n := by
  have hx : nv (sh (fun j => if j = a + n then s else r j) a) n = nv (sh r a) n := nv_ext n (fun j hj => by simp only [sh]; rw [if_neg (by omega)])
  have hy : sh (fun j => if j = a + n then s else r j) a n = s := by simp [sh]
  rw [nv, nv, hx, hy, Int.pow_succ]
  show _ + r0 (a + n) * _ + _ = _
  have e3 : r0 (a + n) * Bd ^ n + b' * (Bd ^ n * Bd) = (s + (b + c)) * Bd ^ n := by
    rw [Int.mul_comm (Bd ^ n) Bd, ← Int.mul_assoc, ← Int.add_mul]
    congr 1
    rw [Int.mul_comm b' Bd]; omega
  have e4 : (s + (b + c)) * Bd ^ n = s * Bd ^ n + (b + c) * Bd ^ n := by rw [Int.add_mul]
  rw [e4] at e3
  omega
theorem Off.of {r0 s d : Nat → Int} {a n : Nat} {k b : Int} (hu : ∀ i, U64 (s i)) (hs : ∀ i, i < a ∨ a + n < i → s i = r0 i) (h : nv (sh r0 a) (n + 1) + b * Bd ^ (n + 1) = nv (sh s a) (n + 1) + k * nv d n) (hb0 : 0 ≤ b) (hb1 : b ≤ 1) : Off r0 d n a k s (b == 0) := by
  have h1 := nv_range (sh_u64 hu a) (n + 1)
  refine ⟨hu, hs, fun e => ?_, fun e => ?_⟩
  · have : b = 0 := by simpa using e
    rw [this, Int.zero_mul] at h; omega
  · have : b = 1 := by have : ¬ b = 0 := by simpa using e
                       omega
    rw [this, Int.one_mul] at h; omega
/-- the start of the division -/
theorem div_start {u v : Nat → Int} {n m k : Nat} {P : Int} (hu : ∀ i, U64 (u i)) (hv : ∀ i, U64 (v i)) (hP : 0 < P) (hn : v n ≠ 0) (hm : m ≤ 8) (hz : ∀ i, m ≤ i → i < 8 → u i = 0) (hk : m ≤ n + k) : nv u 8 * P < nv v (n + 1) * P * Bd ^ k := by
  have h1 : nv u 8 < Bd ^ m := by rw [nv_more m 8 hm hz]; exact (nv_range hu m).2
  have h2 : Bd ^ n ≤ nv v (n + 1) := by
    rw [nv]
    have h3 := (nv_range hv n).1
    have h4 := Int.mul_le_mul_of_nonneg_right (show 1 ≤ v n by have := (hv n).1; omega) (Int.le_of_lt (Bp n))
    rw [Int.one_mul] at h4; omega
  have h5 : Bd ^ m ≤ Bd ^ n * Bd ^ k := by
    rw [← Int.pow_add]
    obtain ⟨j, hj⟩ := Nat.exists_eq_add_of_le hk
    rw [hj, Int.pow_add]
    have := Int.mul_le_mul_of_nonneg_left (show 1 ≤ Bd ^ j by have := Bp j; omega) (Int.le_of_lt (Bp m))
    omega
  have h6 := Int.mul_le_mul_of_nonneg_right h2 (Int.le_of_lt (Bp k))
  have h7 := Int.mul_lt_mul_of_pos_right (show nv u 8 < nv v (n + 1) * Bd ^ k by omega) hP
  rw [Int.mul_assoc, Int.mul_comm P, ← Int.mul_assoc]; exact h7
/-- the end of the division -/
theorem div_end {U v P Q T : Int} (hP : 0 < P) (hv : 0 < v) (h : U * P = Q * (v * P) + T) (h0 : 0 ≤ T) (hT : T < v * P) : Q = U / v ∧ T = (U % v) * P := by
  have h1 : T = (U - Q * v) * P := by rw [Int.sub_mul, Int.mul_assoc]; omega
  have h2 : 0 ≤ U - Q * v := by
    by_cases e : 0 ≤ U - Q * v
    · exact e
    · have := Int.mul_lt_mul_of_pos_right (show U - Q * v < 0 by omega) hP
      omega
  have h3 : U - Q * v < v := Int.lt_of_mul_lt_mul_right (by rw [← h1]; exact hT) (Int.le_of_lt hP)
  have h4 : U % v = U - Q * v := by
    have e : U = (U - Q * v) + v * Q := by rw [Int.mul_comm v Q]; omega
    conv => lhs; rw [e]
    rw [Int.add_mul_emod_self_left, Int.emod_eq_of_lt h2 h3]
  refine ⟨?_, by rw [h4]; exact h1⟩
  have h5 := Int.mul_ediv_add_emod U v
  rw [h4] at h5
  have h6 : v * (U / v) = v * Q := by rw [Int.mul_comm v Q]; omega
  exact (Int.eq_of_mul_eq_mul_left (by omega) h6).symm
end Go.Proofs.YtpadpmkfhljiiaaGreat
/- Rows of 8 and of 9 numbers in a block: that they lie there and may be written; loads, stores, new blocks. -/
namespace Go.Proofs.YtpadpmkfhljiiaaGreat
open Go.RowKit
/-- the first n cells of block b are the numbers v, and may be written -/
def Row (w : World) (b n : Nat) (v : Nat → Int) : Prop := ∀ i, i < n → w.cell? ⟨b, i, none⟩ = some (.int .u64 (v i)) ∧ w.frozen? ⟨b, i, none⟩ = false
def rowL (n : Nat) (v : Nat → Int) : List Value := (List.range n).map fun i => .int .u64 (v i)
theorem rowL_len (n : Nat) (v : Nat → Int) : (rowL n v).length = n := by simp [rowL]
theorem rowL_at (n : Nat) (v : Nat → Int) (i : Nat) (h : i < n) : (rowL n v)[i]? = some (.int .u64 (v i)) := by simp [rowL, h]
theorem rowL_one (n : Nat) (v : Nat → Int) : (rowL n v).toArray.all (·.oneCell') = true :=
  all_oneCell_toArray (by intro x hx; simp only [rowL, List.mem_map] at hx; obtain ⟨i, _, rfl⟩ := hx; rfl)
theorem Row.lt {w : World} {b n : Nat} {v : Nat → Int} (h : Row w b n v) (hn : 0 < n) : b < w.heap.size := World.block_lt_of_cell? w _ (h 0 hn).1
theorem Row.below {w w' : World} {B b n : Nat} {v : Nat → Int} (h : Row w b n v) (k : Below B w w') (hb : b < B) : Row w' b n v := fun i hi =>
  ⟨(k.cell (p := ⟨b, i, none⟩) hb).trans (h i hi).1, (k.frozen (p := ⟨b, i, none⟩) hb).trans (h i hi).2⟩
theorem Row.drew {w : World} {b n : Nat} {v : Nat → Int} (h : Row w b n v) : Row w.drew b n v := fun i hi => by simpa using h i hi
theorem Row.alloc {w : World} {b n : Nat} {v : Nat → Int} (h : Row w b n v) (o : Obj) : Row (w.alloc o) b n v := fun i hi => by
  have hb := World.block_lt_of_cell? w _ (h i hi).1
  exact ⟨by rw [World.cell?_alloc_lt _ _ _ hb]; exact (h i hi).1, by rw [World.frozen?_alloc_past _ _ _ hb]; exact (h i hi).2⟩
theorem Row.set_other {w : World} {b n : Nat} {v : Nat → Int} (h : Row w b n v) (p : Addr) (x : Value) (hp : p.block ≠ b) : Row (w.setCell p x) b n v := fun i hi =>
  ⟨by rw [World.cell?_setCell_other _ _ _ _ (by intro e; subst e; exact hp rfl)]; exact (h i hi).1, by rw [World.frozen?_setCell]; exact (h i hi).2⟩
theorem Row.set {w : World} {b n : Nat} {v : Nat → Int} (h : Row w b n v) (k : Nat) (x : Int) : Row (w.setCell ⟨b, k, none⟩ (.int .u64 x)) b n (fun i => if i = k then x else v i) := fun i hi => by
  refine ⟨?_, by rw [World.frozen?_setCell]; exact (h i hi).2⟩
  dsimp only
  by_cases e : i = k
  · subst e; rw [World.cell?_setCell_same _ _ _ (h i hi).1, if_pos rfl]
  · rw [World.cell?_setCell_other _ _ _ _ (by intro e'; injection e' with _ e' _; exact e e'.symm), if_neg e]; exact (h i hi).1
theorem Row.new (w : World) (t : TypeId) (n : Nat) (v : Nat → Int) : Row (w.alloc (.cells (rowL n v).toArray t)) w.heap.size n v := fun i hi => by
  rw [World.cell?_alloc_at _ _ _ _ rfl]
  exact ⟨by simp [rowL, hi], by simp [World.frozen?_alloc_at]⟩
theorem Row.range {w : World} {b n : Nat} {v : Nat → Int} (h : Row w b n v) : w.rangeAt b 0 (rowL n v) := fun j x hx => by
  have hj : j < n := by have := (List.getElem?_eq_some_iff.1 hx).1; rwa [rowL_len] at this
  rw [rowL_at n v j hj] at hx; rw [Nat.zero_add, ← hx]; exact (h j hj).1
theorem Row.there {w : World} {b n : Nat} {v : Nat → Int} (h : Row w b n v) : w.there b 0 n := fun j hj => by
  rw [Nat.zero_add, (h j hj).1]; exact ⟨rfl, (h j hj).2⟩
theorem Row.of_range {w : World} {b n : Nat} {u v : Nat → Int} (h : Row w b n u) : Row (w.setCells b 0 (rowL n v)) b n v := fun i hi => by
  have := World.rangeAt_setCells_same w b 0 (rowL n v) (by rw [rowL_len]; exact h.there) i _ (rowL_at n v i hi)
  rw [Nat.zero_add] at this
  exact ⟨this, by rw [World.frozen?_setCells]; exact (h i hi).2⟩
theorem Row.set_others {b n c : Nat} {v : Nat → Int} (hc : c ≠ b) : ∀ (vs : List Value) (o : Nat) {w : World}, Row w b n v → Row (w.setCells c o vs) b n v
  | [], _, _, h => h
  | x :: r, o, w, h => by rw [World.setCells]; exact Row.set_others hc r (o + 1) (h.set_other _ _ hc)
theorem Box.set_others {b c : Nat} {a0 a1 a2 a3 : Int} (hc : c ≠ b) : ∀ (vs : List Value) (o : Nat) {w : World}, Box w b a0 a1 a2 a3 → Box (w.setCells c o vs) b a0 a1 a2 a3
  | [], _, _, h => h
  | x :: r, o, w, h => by rw [World.setCells]; exact Box.set_others hc r (o + 1) (h.other _ _ hc)
theorem zero9 : (#[.int .u64 0, .int .u64 0, .int .u64 0, .int .u64 0, .int .u64 0, .int .u64 0, .int .u64 0, .int .u64 0, .int .u64 0] : Array Value) = (rowL 9 fun _ => 0).toArray := by rfl
theorem zero8 : (#[.int .u64 0, .int .u64 0, .int .u64 0, .int .u64 0, .int .u64 0, .int .u64 0, .int .u64 0, .int .u64 0] : Array Value) = (rowL 8 fun _ => 0).toArray := by rfl
theorem below_setCells {B : Nat} {a : World} (b : Nat) (hb : B ≤ b) : ∀ (vs : List Value) (o : Nat) (w : World), Below B a w → Below B a (w.setCells b o vs)
  | [], _, _, h => h
  | v :: r, o, w, h => by rw [World.setCells]; exact below_setCells b hb r (o + 1) _ (h.setCell hb v)
theorem store9 {ops : Array Oper} {rest : List Oper} {op : Oper} {a : Act} {w : World} {Q : Exit → Act → World → Prop} (g : Nat → Int) (b : Nat) (hgd : op.guard = none) (x y : Operand) (ho : op.op = .store 110 x y)
    (hx : a.eval x = .pointer (some ⟨b, 0, none⟩)) (hy : a.eval y = .agg (rowL 9 g).toArray) (ht : w.there b 0 9)
    (h : wpList Tryz.prog ops Q rest (a.put op.dst undef) (w.setCells b 0 (rowL 9 g))) : wpList Tryz.prog ops Q (op :: rest) a w :=
  wpList_store_mid hgd 110 x y ho b 0 (rowL 9 g).toArray hx hy (by rw [List.size_toArray, rowL_len]; exact ht) (by rw [List.size_toArray, rowL_len]; kernel_rfl) (rowL_one 9 g) h
theorem load9 {ops : Array Oper} {rest : List Oper} {op : Oper} {a : Act} {w : World} {Q : Exit → Act → World → Prop} (g : Nat → Int) (b : Nat) (hgd : op.guard = none) (x : Operand) (ho : op.op = .load 110 x)
    (hx : a.eval x = .pointer (some ⟨b, 0, none⟩)) (hr : w.rangeAt b 0 (rowL 9 g))
    (h : wpList Tryz.prog ops Q rest (a.put op.dst (.agg (rowL 9 g).toArray)) w) : wpList Tryz.prog ops Q (op :: rest) a w :=
  wpList_load_mid hgd 110 x ho b 0 hx (rowL 9 g) _ hr Tryz.underlying110 rfl (by rw [rowL_len]; kernel_rfl) h
theorem loadVar9 {w : World} {b : Nat} {g : Nat → Int} (h : w.rangeAt b 0 (rowL 9 g)) : (loadVar 110 ⟨b, 0, none⟩).run Tryz.prog w = .ok (.agg (rowL 9 g).toArray) w :=
  run_loadVar_mid w b 0 110 (rowL 9 g) _ h Tryz.underlying110 rfl (by rw [rowL_len]; kernel_rfl)
theorem store8 {ops : Array Oper} {rest : List Oper} {op : Oper} {a : Act} {w : World} {Q : Exit → Act → World → Prop} (g : Nat → Int) (b : Nat) (hgd : op.guard = none) (x y : Operand) (ho : op.op = .store 69 x y)
    (hx : a.eval x = .pointer (some ⟨b, 0, none⟩)) (hy : a.eval y = .agg (rowL 8 g).toArray) (ht : w.there b 0 8)
    (h : wpList Tryz.prog ops Q rest (a.put op.dst undef) (w.setCells b 0 (rowL 8 g))) : wpList Tryz.prog ops Q (op :: rest) a w :=
  wpList_store_mid hgd 69 x y ho b 0 (rowL 8 g).toArray hx hy (by rw [List.size_toArray, rowL_len]; exact ht) (by rw [List.size_toArray, rowL_len]; kernel_rfl) (rowL_one 8 g) h
theorem load8 {ops : Array Oper} {rest : List Oper} {op : Oper} {a : Act} {w : World} {Q : Exit → Act → World → Prop} (g : Nat → Int) (b : Nat) (hgd : op.guard = none) (x : Operand) (ho : op.op = .load 69 x)
    (hx : a.eval x = .pointer (some ⟨b, 0, none⟩)) (hr : w.rangeAt b 0 (rowL 8 g))
    (h : wpList Tryz.prog ops Q rest (a.put op.dst (.agg (rowL 8 g).toArray)) w) : wpList Tryz.prog ops Q (op :: rest) a w :=
  wpList_load_mid hgd 69 x ho b 0 hx (rowL 8 g) _ hr Tryz.underlying69 rfl (by rw [rowL_len]; kernel_rfl) h
theorem loadVar8 {w : World} {b : Nat} {g : Nat → Int} (h : w.rangeAt b 0 (rowL 8 g)) : (loadVar 69 ⟨b, 0, none⟩).run Tryz.prog w = .ok (.agg (rowL 8 g).toArray) w :=
  run_loadVar_mid w b 0 69 (rowL 8 g) _ h Tryz.underlying69 rfl (by rw [rowL_len]; kernel_rfl)
theorem results_ct {fn : Func} {p q : Tmp} {ty : TypeId} (h : fn.results = #[.cell p ty, .tmp q]) (tmps : Array Value) (P : Program) (w : World) (a : Addr) (ha : tmps.getD p undef = .pointer (some a)) {v x : Value} (hx : tmps.getD q undef = x) (hl : (loadVar ty a).run P w = .ok v w) : (results fn tmps).run P w = .ok (.tuple #[v, x]) w := by
  have ha' : tmps[p]?.getD undef = .pointer (some a) := by simpa using ha
  have hx' : tmps[q]?.getD undef = x := by simpa using hx
  simp only [results, h]
  simp [ha', hx', hl, asAddr]
theorem results_cc {fn : Func} {p q : Tmp} {ty ty2 : TypeId} (h : fn.results = #[.cell p ty, .cell q ty2]) (tmps : Array Value) (P : Program) (w : World) (a b : Addr) (ha : tmps.getD p undef = .pointer (some a)) (hb : tmps.getD q undef = .pointer (some b)) {v x : Value} (hl : (loadVar ty a).run P w = .ok v w) (hl2 : (loadVar ty2 b).run P w = .ok x w) : (results fn tmps).run P w = .ok (.tuple #[v, x]) w := by
  have ha' : tmps[p]?.getD undef = .pointer (some a) := by simpa using ha
  have hb' : tmps[q]?.getD undef = .pointer (some b) := by simpa using hb
  simp only [results, h]
  simp [ha', hb', hl, hl2, asAddr]
theorem results_c {fn : Func} {p : Tmp} {ty : TypeId} (h : fn.results = #[.cell p ty]) (tmps : Array Value) (P : Program) (w : World) (a : Addr) (ha : tmps.getD p undef = .pointer (some a)) {v : Value} (hl : (loadVar ty a).run P w = .ok v w) : (results fn tmps).run P w = .ok v w := by
  have ha' : tmps[p]?.getD undef = .pointer (some a) := by simpa using ha
  simp only [results, h]
  simp [ha', hl, asAddr]
theorem Box.row {w : World} {b : Nat} {a0 a1 a2 a3 : Int} (h : Box w b a0 a1 a2 a3) (i : Nat) (hi : i < 4) : w.cell? ⟨b, i, none⟩ = some (.int .u64 (limb a0 a1 a2 a3 i)) := h.1 i hi
end Go.Proofs.YtpadpmkfhljiiaaGreat
