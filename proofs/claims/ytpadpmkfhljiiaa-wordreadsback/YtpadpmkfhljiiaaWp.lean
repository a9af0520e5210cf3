/- The plain product of two words, its eight parts; and Mul. -/
import Derived.Test.YtpadpmkfhljiiaaWm
namespace Go.Proofs.Ytpadpmkfhljiiaa
open Go.RowKit

theorem prow {a b0 b1 b2 b3 t0 t1 t2 t3 s0 s1 s2 s3 c1 c2 c3 c4 : Int} (e0 : t0 + a * b0 + 0 = c1 * Bd + s0) (e1 : t1 + a * b1 + c1 = c2 * Bd + s1) (e2 : t2 + a * b2 + c2 = c3 * Bd + s2) (e3 : t3 + a * b3 + c3 = c4 * Bd + s3) :
    V t0 t1 t2 t3 + a * V b0 b1 b2 b3 = V s0 s1 s2 s3 + MM * c4 := by
  have h : a * V b0 b1 b2 b3 = a * b0 + Bd * (a * b1) + Bd * (Bd * (a * b2)) + Bd * (Bd * (Bd * (a * b3))) := by unfold V; grind
  rw [h]
  generalize a * b0 = p0 at *; generalize a * b1 = p1 at *; generalize a * b2 = p2 at *; generalize a * b3 = p3 at *
  unfold V Bd MM at *; omega
/-- a number of eight parts -/
def V8 (p0 p1 p2 p3 p4 p5 p6 p7 : Int) : Int := V p0 p1 p2 p3 + MM * V p4 p5 p6 p7
theorem prod4 {a0 a1 a2 a3 v r0 r1 r2 r3 r4 r5 r6 r7 x1 x2 x3 x4 y2 y3 y4 y5 z3 z4 z5 z6 : Int}
    (h0 : V 0 0 0 0 + a0 * v = V r0 x1 x2 x3 + MM * x4) (h1 : V x1 x2 x3 x4 + a1 * v = V r1 y2 y3 y4 + MM * y5) (h2 : V y2 y3 y4 y5 + a2 * v = V r2 z3 z4 z5 + MM * z6) (h3 : V z3 z4 z5 z6 + a3 * v = V r3 r4 r5 r6 + MM * r7) :
    V a0 a1 a2 a3 * v = V8 r0 r1 r2 r3 r4 r5 r6 r7 := by
  have h : V a0 a1 a2 a3 * v = a0 * v + Bd * (a1 * v) + Bd * (Bd * (a2 * v)) + Bd * (Bd * (Bd * (a3 * v))) := by unfold V; grind
  rw [h]
  generalize a0 * v = p0 at *; generalize a1 * v = p1 at *; generalize a2 * v = p2 at *; generalize a3 * v = p3 at *
  unfold V8 V Bd MM at *; omega

set_option maxHeartbeats 4000000 in
set_option maxRecDepth 100000 in
theorem product_any (a0 a1 a2 a3 b0 b1 b2 b3 : Int) (w : World) (ha0 : U64 a0) (ha1 : U64 a1) (ha2 : U64 a2) (ha3 : U64 a3) (hb0 : U64 b0) (hb1 : U64 b1) (hb2 : U64 b2) (hb3 : U64 b3) :
    Calls Try.prog 79 #[.agg #[.int .u64 a0, .int .u64 a1, .int .u64 a2, .int .u64 a3], .agg #[.int .u64 b0, .int .u64 b1, .int .u64 b2, .int .u64 b3]] w fun e w' => ∃ p0 p1 p2 p3 p4 p5 p6 p7 : Int, e = .returned (.agg #[.int .u64 p0, .int .u64 p1, .int .u64 p2, .int .u64 p3, .int .u64 p4, .int .u64 p5, .int .u64 p6, .int .u64 p7]) ∧
      (U64 p0 ∧ U64 p1 ∧ U64 p2 ∧ U64 p3 ∧ U64 p4 ∧ U64 p5 ∧ U64 p6 ∧ U64 p7) ∧ V a0 a1 a2 a3 * V b0 b1 b2 b3 = V8 p0 p1 p2 p3 p4 p5 p6 p7 ∧ Below w.heap.size w w' := by
  obtain ⟨h00, l00, s00, d00, m00, r00, x00, y00, u_s00, c00, e00⟩ := pst a0 b0 0 0 ha0 hb0 (u64_lit 0 (by omega) (by omega)) (u64_lit 0 (by omega) (by omega))
  obtain ⟨h01, l01, s01, d01, m01, r01, x01, y01, u_s01, c01, e01⟩ := pst a0 b1 (h00 + d00) 0 ha0 hb1 (c00) (u64_lit 0 (by omega) (by omega))
  obtain ⟨h02, l02, s02, d02, m02, r02, x02, y02, u_s02, c02, e02⟩ := pst a0 b2 (h01 + d01) 0 ha0 hb2 (c01) (u64_lit 0 (by omega) (by omega))
  obtain ⟨h03, l03, s03, d03, m03, r03, x03, y03, u_s03, c03, e03⟩ := pst a0 b3 (h02 + d02) 0 ha0 hb3 (c02) (u64_lit 0 (by omega) (by omega))
  obtain ⟨h10, l10, s10, d10, m10, r10, x10, y10, u_s10, c10, e10⟩ := pst a1 b0 0 s01 ha1 hb0 (u64_lit 0 (by omega) (by omega)) u_s01
  obtain ⟨h11, l11, s11, d11, m11, r11, x11, y11, u_s11, c11, e11⟩ := pst a1 b1 (h10 + d10) s02 ha1 hb1 (c10) u_s02
  obtain ⟨h12, l12, s12, d12, m12, r12, x12, y12, u_s12, c12, e12⟩ := pst a1 b2 (h11 + d11) s03 ha1 hb2 (c11) u_s03
  obtain ⟨h13, l13, s13, d13, m13, r13, x13, y13, u_s13, c13, e13⟩ := pst a1 b3 (h12 + d12) (h03 + d03) ha1 hb3 (c12) c03
  obtain ⟨h20, l20, s20, d20, m20, r20, x20, y20, u_s20, c20, e20⟩ := pst a2 b0 0 s11 ha2 hb0 (u64_lit 0 (by omega) (by omega)) u_s11
  obtain ⟨h21, l21, s21, d21, m21, r21, x21, y21, u_s21, c21, e21⟩ := pst a2 b1 (h20 + d20) s12 ha2 hb1 (c20) u_s12
  obtain ⟨h22, l22, s22, d22, m22, r22, x22, y22, u_s22, c22, e22⟩ := pst a2 b2 (h21 + d21) s13 ha2 hb2 (c21) u_s13
  obtain ⟨h23, l23, s23, d23, m23, r23, x23, y23, u_s23, c23, e23⟩ := pst a2 b3 (h22 + d22) (h13 + d13) ha2 hb3 (c22) c13
  obtain ⟨h30, l30, s30, d30, m30, r30, x30, y30, u_s30, c30, e30⟩ := pst a3 b0 0 s21 ha3 hb0 (u64_lit 0 (by omega) (by omega)) u_s21
  obtain ⟨h31, l31, s31, d31, m31, r31, x31, y31, u_s31, c31, e31⟩ := pst a3 b1 (h30 + d30) s22 ha3 hb1 (c30) u_s22
  obtain ⟨h32, l32, s32, d32, m32, r32, x32, y32, u_s32, c32, e32⟩ := pst a3 b2 (h31 + d31) s23 ha3 hb2 (c31) u_s23
  obtain ⟨h33, l33, s33, d33, m33, r33, x33, y33, u_s33, c33, e33⟩ := pst a3 b3 (h32 + d32) (h23 + d23) ha3 hb3 (c32) c23
  have E0 := prow e00.out e01.out e02.out e03.out
  have E1 := prow e10.out e11.out e12.out e13.out
  have E2 := prow e20.out e21.out e22.out e23.out
  have E3 := prow e30.out e31.out e32.out e33.out
  have EE := prod4 E0 E1 E2 E3
  have HE : Hid (V a0 a1 a2 a3 * V b0 b1 b2 b3 = V8 s00 s10 s20 s30 s31 s32 s33 (h33 + d33)) := EE
  clear EE E0 E1 E2 E3 e00 e01 e02 e03 e10 e11 e12 e13 e20 e21 e22 e23 e30 e31 e32 e33
  have M00 : Hid _ := m00
  have M01 : Hid _ := m01
  have M02 : Hid _ := m02
  have M03 : Hid _ := m03
  have M10 : Hid _ := m10
  have M11 : Hid _ := m11
  have M12 : Hid _ := m12
  have M13 : Hid _ := m13
  have M20 : Hid _ := m20
  have M21 : Hid _ := m21
  have M22 : Hid _ := m22
  have M23 : Hid _ := m23
  have M30 : Hid _ := m30
  have M31 : Hid _ := m31
  have M32 : Hid _ := m32
  have M33 : Hid _ := m33
  clear m00 m01 m02 m03 m10 m11 m12 m13 m20 m21 m22 m23 m30 m31 m32 m33
  go_enter Try.func79, Try.ntmps79
  go_wp2
  refine wp_loop_rounds 5 ?_
  rw [rounds_succ]
  go_wp2
  refine wp_loop_rounds 5 ?_
  rw [rounds_succ]
  go_wp2
  go_region_held3 (fun w' => w'.cell? ⟨w.heap.size, 0, none⟩ = some (.int .u64 a0) ∧ w'.cell? ⟨w.heap.size + 1, 0, none⟩ = some (.int .u64 b0)) (refine ⟨?_, ?_⟩ <;> go_simp) ((go_at_call 100; refine (M00.out _).mono ?_; rintro e w' ⟨rfl, rfl⟩))
  go_wp2
  rw [rounds_succ]
  go_wp2
  go_region_held3 (fun w' => w'.cell? ⟨w.heap.size, 0, none⟩ = some (.int .u64 a0) ∧ w'.cell? ⟨w.heap.size + 1, 1, none⟩ = some (.int .u64 b1)) (refine ⟨?_, ?_⟩ <;> go_simp) ((go_at_call 100; refine (M01.out _).mono ?_; rintro e w' ⟨rfl, rfl⟩))
  go_wp2
  rw [rounds_succ]
  go_wp2
  go_region_held3 (fun w' => w'.cell? ⟨w.heap.size, 0, none⟩ = some (.int .u64 a0) ∧ w'.cell? ⟨w.heap.size + 1, 2, none⟩ = some (.int .u64 b2)) (refine ⟨?_, ?_⟩ <;> go_simp) ((go_at_call 100; refine (M02.out _).mono ?_; rintro e w' ⟨rfl, rfl⟩))
  go_wp2
  rw [rounds_succ]
  go_wp2
  go_region_held3 (fun w' => w'.cell? ⟨w.heap.size, 0, none⟩ = some (.int .u64 a0) ∧ w'.cell? ⟨w.heap.size + 1, 3, none⟩ = some (.int .u64 b3)) (refine ⟨?_, ?_⟩ <;> go_simp) ((go_at_call 100; refine (M03.out _).mono ?_; rintro e w' ⟨rfl, rfl⟩))
  go_wp2
  rw [rounds_succ]
  go_wp2
  rw [rounds_succ]
  go_wp2
  refine wp_loop_rounds 5 ?_
  rw [rounds_succ]
  go_wp2
  go_region_held3 (fun w' => w'.cell? ⟨w.heap.size, 1, none⟩ = some (.int .u64 a1) ∧ w'.cell? ⟨w.heap.size + 1, 0, none⟩ = some (.int .u64 b0)) (refine ⟨?_, ?_⟩ <;> go_simp) ((go_at_call 100; refine (M10.out _).mono ?_; rintro e w' ⟨rfl, rfl⟩))
  go_wp2
  rw [rounds_succ]
  go_wp2
  go_region_held3 (fun w' => w'.cell? ⟨w.heap.size, 1, none⟩ = some (.int .u64 a1) ∧ w'.cell? ⟨w.heap.size + 1, 1, none⟩ = some (.int .u64 b1)) (refine ⟨?_, ?_⟩ <;> go_simp) ((go_at_call 100; refine (M11.out _).mono ?_; rintro e w' ⟨rfl, rfl⟩))
  go_wp2
  rw [rounds_succ]
  go_wp2
  go_region_held3 (fun w' => w'.cell? ⟨w.heap.size, 1, none⟩ = some (.int .u64 a1) ∧ w'.cell? ⟨w.heap.size + 1, 2, none⟩ = some (.int .u64 b2)) (refine ⟨?_, ?_⟩ <;> go_simp) ((go_at_call 100; refine (M12.out _).mono ?_; rintro e w' ⟨rfl, rfl⟩))
  go_wp2
  rw [rounds_succ]
  go_wp2
  go_region_held3 (fun w' => w'.cell? ⟨w.heap.size, 1, none⟩ = some (.int .u64 a1) ∧ w'.cell? ⟨w.heap.size + 1, 3, none⟩ = some (.int .u64 b3)) (refine ⟨?_, ?_⟩ <;> go_simp) ((go_at_call 100; refine (M13.out _).mono ?_; rintro e w' ⟨rfl, rfl⟩))
  go_wp2
  rw [rounds_succ]
  go_wp2
  rw [rounds_succ]
  go_wp2
  refine wp_loop_rounds 5 ?_
  rw [rounds_succ]
  go_wp2
  go_region_held3 (fun w' => w'.cell? ⟨w.heap.size, 2, none⟩ = some (.int .u64 a2) ∧ w'.cell? ⟨w.heap.size + 1, 0, none⟩ = some (.int .u64 b0)) (refine ⟨?_, ?_⟩ <;> go_simp) ((go_at_call 100; refine (M20.out _).mono ?_; rintro e w' ⟨rfl, rfl⟩))
  go_wp2
  rw [rounds_succ]
  go_wp2
  go_region_held3 (fun w' => w'.cell? ⟨w.heap.size, 2, none⟩ = some (.int .u64 a2) ∧ w'.cell? ⟨w.heap.size + 1, 1, none⟩ = some (.int .u64 b1)) (refine ⟨?_, ?_⟩ <;> go_simp) ((go_at_call 100; refine (M21.out _).mono ?_; rintro e w' ⟨rfl, rfl⟩))
  go_wp2
  rw [rounds_succ]
  go_wp2
  go_region_held3 (fun w' => w'.cell? ⟨w.heap.size, 2, none⟩ = some (.int .u64 a2) ∧ w'.cell? ⟨w.heap.size + 1, 2, none⟩ = some (.int .u64 b2)) (refine ⟨?_, ?_⟩ <;> go_simp) ((go_at_call 100; refine (M22.out _).mono ?_; rintro e w' ⟨rfl, rfl⟩))
  go_wp2
  rw [rounds_succ]
  go_wp2
  go_region_held3 (fun w' => w'.cell? ⟨w.heap.size, 2, none⟩ = some (.int .u64 a2) ∧ w'.cell? ⟨w.heap.size + 1, 3, none⟩ = some (.int .u64 b3)) (refine ⟨?_, ?_⟩ <;> go_simp) ((go_at_call 100; refine (M23.out _).mono ?_; rintro e w' ⟨rfl, rfl⟩))
  go_wp2
  rw [rounds_succ]
  go_wp2
  rw [rounds_succ]
  go_wp2
  refine wp_loop_rounds 5 ?_
  rw [rounds_succ]
  go_wp2
  go_region_held3 (fun w' => w'.cell? ⟨w.heap.size, 3, none⟩ = some (.int .u64 a3) ∧ w'.cell? ⟨w.heap.size + 1, 0, none⟩ = some (.int .u64 b0)) (refine ⟨?_, ?_⟩ <;> go_simp) ((go_at_call 100; refine (M30.out _).mono ?_; rintro e w' ⟨rfl, rfl⟩))
  go_wp2
  rw [rounds_succ]
  go_wp2
  go_region_held3 (fun w' => w'.cell? ⟨w.heap.size, 3, none⟩ = some (.int .u64 a3) ∧ w'.cell? ⟨w.heap.size + 1, 1, none⟩ = some (.int .u64 b1)) (refine ⟨?_, ?_⟩ <;> go_simp) ((go_at_call 100; refine (M31.out _).mono ?_; rintro e w' ⟨rfl, rfl⟩))
  go_wp2
  rw [rounds_succ]
  go_wp2
  go_region_held3 (fun w' => w'.cell? ⟨w.heap.size, 3, none⟩ = some (.int .u64 a3) ∧ w'.cell? ⟨w.heap.size + 1, 2, none⟩ = some (.int .u64 b2)) (refine ⟨?_, ?_⟩ <;> go_simp) ((go_at_call 100; refine (M32.out _).mono ?_; rintro e w' ⟨rfl, rfl⟩))
  go_wp2
  rw [rounds_succ]
  go_wp2
  go_region_held3 (fun w' => w'.cell? ⟨w.heap.size, 3, none⟩ = some (.int .u64 a3) ∧ w'.cell? ⟨w.heap.size + 1, 3, none⟩ = some (.int .u64 b3)) (refine ⟨?_, ?_⟩ <;> go_simp) ((go_at_call 100; refine (M33.out _).mono ?_; rintro e w' ⟨rfl, rfl⟩))
  go_wp2
  rw [rounds_succ]
  go_wp2
  rw [rounds_succ]
  go_wp2
  exact bodyPost_ret (v := .agg #[.int .u64 (s00), .int .u64 (s10), .int .u64 (s20), .int .u64 (s30), .int .u64 (s31), .int .u64 (s32), .int .u64 (s33), .int .u64 (h33 + d33)]) (by simp [results, Try.results79, go_sem]) rfl
    ⟨_, _, _, _, _, _, _, _, rfl, ⟨u_s00, u_s10, u_s20, u_s30, u_s31, u_s32, u_s33, c33⟩, HE.out, by repeat' (first | with_reducible exact Below.refl _ _ | with_reducible exact Below.refl _ _ | with_reducible refine Below.drew ?_ | with_reducible refine bdrewN ?_ _ | with_reducible refine Below.alloc ?_ ?_ _ | with_reducible refine Below.setCell ?_ ?_ _ | omega | (simp; done) | (simp; omega))⟩

end Go.Proofs.Ytpadpmkfhljiiaa
