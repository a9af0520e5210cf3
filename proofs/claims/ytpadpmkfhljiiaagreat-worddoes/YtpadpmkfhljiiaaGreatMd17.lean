/- WordDoes: for every code and three words the law returns true and turns nothing that was there. -/
import Derived.Test.YtpadpmkfhljiiaaGreatMd16
import Derived.Test.YtpadpmkfhljiiaaGreatMd1
namespace Go.Proofs.YtpadpmkfhljiiaaGreat
open Go.RowKit
set_option maxHeartbeats 4000000 in
set_option maxRecDepth 100000 in
theorem wdo_c (a0 a1 a2 a3 b0 b1 b2 b3 c0 c1 c2 c3 p0 p1 p2 p3 : Int) (i : Int) (r : Bool) (DW : ∀ w : World, Calls Tryz.prog 56 #[.int .i64 i, .agg #[.int .u64 a0, .int .u64 a1, .int .u64 a2, .int .u64 a3], .agg #[.int .u64 b0, .int .u64 b1, .int .u64 b2, .int .u64 b3], .agg #[.int .u64 c0, .int .u64 c1, .int .u64 c2, .int .u64 c3]] w fun e w' => e = .returned (.tuple #[.agg #[.int .u64 p0, .int .u64 p1, .int .u64 p2, .int .u64 p3], .bool r]) ∧ Below w.heap.size w w') (DR : ∀ w : World, Calls Tryz.prog 57 #[.int .i64 i, .agg #[.int .u64 a0, .int .u64 a1, .int .u64 a2, .int .u64 a3], .agg #[.int .u64 b0, .int .u64 b1, .int .u64 b2, .int .u64 b3], .agg #[.int .u64 c0, .int .u64 c1, .int .u64 c2, .int .u64 c3]] w fun e w' => e = .returned (.tuple #[.agg #[.int .u64 p0, .int .u64 p1, .int .u64 p2, .int .u64 p3], .bool r]) ∧ Below w.heap.size w w') (w : World) :
    Calls Tryz.prog 7 #[.int .i64 i, .agg #[.int .u64 a0, .int .u64 a1, .int .u64 a2, .int .u64 a3], .agg #[.int .u64 b0, .int .u64 b1, .int .u64 b2, .int .u64 b3], .agg #[.int .u64 c0, .int .u64 c1, .int .u64 c2, .int .u64 c3]] w fun e w' => e = .returned (.bool true) ∧ Below w.heap.size w w' := by
  have eqs := eqw_same
  have HDW : Hid _ := DW
  have HDR : Hid _ := DR
  clear DW DR
  go_enter Tryz.func7, Tryz.ntmps7
  go_upto_region 1 with fail
  have X1 : Hid (Bx w [(w.heap.size + 1 + 1, c0, c1, c2, c3), (w.heap.size + 1, b0, b1, b2, b3), (w.heap.size, a0, a1, a2, a3)] (((w.alloc (.cells #[.int .u64 a0, .int .u64 a1, .int .u64 a2, .int .u64 a3] 24)).alloc (.cells #[.int .u64 b0, .int .u64 b1, .int .u64 b2, .int .u64 b3] 24)).alloc (.cells #[.int .u64 c0, .int .u64 c1, .int .u64 c2, .int .u64 c3] 24))) := by
    have h := (((Bx.start w).alloc a0 a1 a2 a3).alloc b0 b1 b2 b3).alloc c0 c1 c2 c3
    (try simp only [World.size_alloc] at h)
    exact h
  generalize (((w.alloc (.cells #[.int .u64 a0, .int .u64 a1, .int .u64 a2, .int .u64 a3] 24)).alloc (.cells #[.int .u64 b0, .int .u64 b1, .int .u64 b2, .int .u64 b3] 24)).alloc (.cells #[.int .u64 c0, .int .u64 c1, .int .u64 c2, .int .u64 c3] 24)) = g2 at X1 ⊢
  obtain ⟨k3_0_0, k3_0_1, k3_0_2, k3_0_3, k3_0_4, k3_0_5, k3_0_6, k3_0_7⟩ := X1.out.f0 mm0
  obtain ⟨k3_1_0, k3_1_1, k3_1_2, k3_1_3, k3_1_4, k3_1_5, k3_1_6, k3_1_7⟩ := X1.out.f0 mm1
  obtain ⟨k3_2_0, k3_2_1, k3_2_2, k3_2_3, k3_2_4, k3_2_5, k3_2_6, k3_2_7⟩ := X1.out.f0 mm2
  go_upto_region 2 with (first | (go_at_call 56; refine (HDW.out _).mono ?_; rintro e g5 ⟨rfl, hB⟩; (have X4 : Hid (Bx w [(w.heap.size + 1 + 1, c0, c1, c2, c3), (w.heap.size + 1, b0, b1, b2, b3), (w.heap.size, a0, a1, a2, a3)] g5) := X1.out.past hB); clear hB X1 k3_0_0 k3_0_1 k3_0_2 k3_0_3 k3_0_4 k3_0_5 k3_0_6 k3_0_7 k3_1_0 k3_1_1 k3_1_2 k3_1_3 k3_1_4 k3_1_5 k3_1_6 k3_1_7 k3_2_0 k3_2_1 k3_2_2 k3_2_3 k3_2_4 k3_2_5 k3_2_6 k3_2_7; obtain ⟨k6_0_0, k6_0_1, k6_0_2, k6_0_3, k6_0_4, k6_0_5, k6_0_6, k6_0_7⟩ := X4.out.f0 mm0; obtain ⟨k6_1_0, k6_1_1, k6_1_2, k6_1_3, k6_1_4, k6_1_5, k6_1_6, k6_1_7⟩ := X4.out.f0 mm1; obtain ⟨k6_2_0, k6_2_1, k6_2_2, k6_2_3, k6_2_4, k6_2_5, k6_2_6, k6_2_7⟩ := X4.out.f0 mm2))
  clear k6_0_0 k6_0_1 k6_0_2 k6_0_3 k6_0_4 k6_0_5 k6_0_6 k6_0_7 k6_1_0 k6_1_1 k6_1_2 k6_1_3 k6_1_4 k6_1_5 k6_1_6 k6_1_7 k6_2_0 k6_2_1 k6_2_2 k6_2_3 k6_2_4 k6_2_5 k6_2_6 k6_2_7
  have X9 : Hid (Bx w ((g5.heap.size, p0, p1, p2, p3) :: [(w.heap.size + 1 + 1, c0, c1, c2, c3), (w.heap.size + 1, b0, b1, b2, b3), (w.heap.size, a0, a1, a2, a3)]) (g5.alloc (.cells #[.int .u64 p0, .int .u64 p1, .int .u64 p2, .int .u64 p3] 24))) := X4.out.alloc p0 p1 p2 p3
  have lbk7_0 : w.heap.size + 1 + 1 < g5.heap.size := X4.out.lt _ mm0
  have lbk7_1 : w.heap.size + 1 < g5.heap.size := X4.out.lt _ mm1
  have lbk7_2 : w.heap.size < g5.heap.size := X4.out.lt _ mm2
  generalize g5.alloc (.cells #[.int .u64 p0, .int .u64 p1, .int .u64 p2, .int .u64 p3] 24) = g8 at X9 ⊢
  generalize g5.heap.size = bk7 at X9 lbk7_0 lbk7_1 lbk7_2 ⊢
  clear X4
  obtain ⟨k10_1_0, k10_1_1, k10_1_2, k10_1_3, k10_1_4, k10_1_5, k10_1_6, k10_1_7⟩ := X9.out.f0 mm1
  obtain ⟨k10_2_0, k10_2_1, k10_2_2, k10_2_3, k10_2_4, k10_2_5, k10_2_6, k10_2_7⟩ := X9.out.f0 mm2
  obtain ⟨k10_3_0, k10_3_1, k10_3_2, k10_3_3, k10_3_4, k10_3_5, k10_3_6, k10_3_7⟩ := X9.out.f0 mm3
  go_upto_region 3 with (first | (go_at_call 57; refine (HDR.out _).mono ?_; rintro e g12 ⟨rfl, hB⟩; (have X11 : Hid (Bx w [(bk7, p0, p1, p2, p3), (w.heap.size + 1 + 1, c0, c1, c2, c3), (w.heap.size + 1, b0, b1, b2, b3), (w.heap.size, a0, a1, a2, a3)] g12) := X9.out.past hB); clear hB X9 k10_1_0 k10_1_1 k10_1_2 k10_1_3 k10_1_4 k10_1_5 k10_1_6 k10_1_7 k10_2_0 k10_2_1 k10_2_2 k10_2_3 k10_2_4 k10_2_5 k10_2_6 k10_2_7 k10_3_0 k10_3_1 k10_3_2 k10_3_3 k10_3_4 k10_3_5 k10_3_6 k10_3_7; obtain ⟨k13_1_0, k13_1_1, k13_1_2, k13_1_3, k13_1_4, k13_1_5, k13_1_6, k13_1_7⟩ := X11.out.f0 mm1; obtain ⟨k13_2_0, k13_2_1, k13_2_2, k13_2_3, k13_2_4, k13_2_5, k13_2_6, k13_2_7⟩ := X11.out.f0 mm2; obtain ⟨k13_3_0, k13_3_1, k13_3_2, k13_3_3, k13_3_4, k13_3_5, k13_3_6, k13_3_7⟩ := X11.out.f0 mm3))
  clear k13_1_0 k13_1_1 k13_1_2 k13_1_3 k13_1_4 k13_1_5 k13_1_6 k13_1_7 k13_2_0 k13_2_1 k13_2_2 k13_2_3 k13_2_4 k13_2_5 k13_2_6 k13_2_7 k13_3_0 k13_3_1 k13_3_2 k13_3_3 k13_3_4 k13_3_5 k13_3_6 k13_3_7
  have X16 : Hid (Bx w ((g12.heap.size, p0, p1, p2, p3) :: [(bk7, p0, p1, p2, p3), (w.heap.size + 1 + 1, c0, c1, c2, c3), (w.heap.size + 1, b0, b1, b2, b3), (w.heap.size, a0, a1, a2, a3)]) (g12.alloc (.cells #[.int .u64 p0, .int .u64 p1, .int .u64 p2, .int .u64 p3] 24))) := X11.out.alloc p0 p1 p2 p3
  have lbk14_0 : bk7 < g12.heap.size := X11.out.lt _ mm0
  have lbk14_1 : w.heap.size + 1 + 1 < g12.heap.size := X11.out.lt _ mm1
  have lbk14_2 : w.heap.size + 1 < g12.heap.size := X11.out.lt _ mm2
  have lbk14_3 : w.heap.size < g12.heap.size := X11.out.lt _ mm3
  generalize g12.alloc (.cells #[.int .u64 p0, .int .u64 p1, .int .u64 p2, .int .u64 p3] 24) = g15 at X16 ⊢
  generalize g12.heap.size = bk14 at X16 lbk14_0 lbk14_1 lbk14_2 lbk14_3 ⊢
  clear X11
  obtain ⟨k17_0_0, k17_0_1, k17_0_2, k17_0_3, k17_0_4, k17_0_5, k17_0_6, k17_0_7⟩ := X16.out.f0 mm0
  obtain ⟨k17_1_0, k17_1_1, k17_1_2, k17_1_3, k17_1_4, k17_1_5, k17_1_6, k17_1_7⟩ := X16.out.f0 mm1
  go_wp2_with (first | (go_at_call 21; refine (awake_any _).mono ?_; rintro e g19 ⟨rfl, hB⟩; (have X18 : Hid (Bx w [(bk14, p0, p1, p2, p3), (bk7, p0, p1, p2, p3), (w.heap.size + 1 + 1, c0, c1, c2, c3), (w.heap.size + 1, b0, b1, b2, b3), (w.heap.size, a0, a1, a2, a3)] g19) := X16.out.past hB); clear hB X16 k17_0_0 k17_0_1 k17_0_2 k17_0_3 k17_0_4 k17_0_5 k17_0_6 k17_0_7 k17_1_0 k17_1_1 k17_1_2 k17_1_3 k17_1_4 k17_1_5 k17_1_6 k17_1_7; obtain ⟨k20_0_0, k20_0_1, k20_0_2, k20_0_3, k20_0_4, k20_0_5, k20_0_6, k20_0_7⟩ := X18.out.f0 mm0; obtain ⟨k20_1_0, k20_1_1, k20_1_2, k20_1_3, k20_1_4, k20_1_5, k20_1_6, k20_1_7⟩ := X18.out.f0 mm1))
  go_ret
  exact ⟨rfl, X18.out.bel⟩
theorem wordDoes_walk (i x y z : Int) (a0 a1 a2 a3 b0 b1 b2 b3 c0 c1 c2 c3 : Int) (w : World) (ha : IsW x a0 a1 a2 a3) (hb : IsW y b0 b1 b2 b3) (hc : IsW z c0 c1 c2 c3) :
    Calls Tryz.prog 7 #[.int .i64 i, .agg #[.int .u64 a0, .int .u64 a1, .int .u64 a2, .int .u64 a3], .agg #[.int .u64 b0, .int .u64 b1, .int .u64 b2, .int .u64 b3], .agg #[.int .u64 c0, .int .u64 c1, .int .u64 c2, .int .u64 c3]] w fun e w' => e = .returned (.bool true) ∧ Below w.heap.size w w' := by
  obtain ⟨p0, p1, p2, p3, r, DW, DR⟩ := do_both i ha hb hc
  exact wdo_c a0 a1 a2 a3 b0 b1 b2 b3 c0 c1 c2 c3 p0 p1 p2 p3 i r DW DR w
end Go.Proofs.YtpadpmkfhljiiaaGreat
