/- Shl, Shr, Sar, by what below and the shifts themselves give. -/
import Derived.Test.YtpadpmkfhljiiaaGreatMp6
import Derived.Test.YtpadpmkfhljiiaaGreatMp9
import Derived.Test.YtpadpmkfhljiiaaGreatMp5
namespace Go.Proofs.YtpadpmkfhljiiaaGreat
open Go.RowKit
set_option maxHeartbeats 4000000 in
set_option maxRecDepth 100000 in
theorem shl_ge (n0 n1 n2 n3 a0 a1 a2 a3 : Int) (BL : ∀ w : World, Calls Tryz.prog 100 #[.agg #[.int .u64 n0, .int .u64 n1, .int .u64 n2, .int .u64 n3], .int .u64 256] w fun e w' => e = .returned (.tuple #[.int .u64 0, .bool false]) ∧ Below w.heap.size w w') (w : World) :
    Calls Tryz.prog 48 #[.agg #[.int .u64 n0, .int .u64 n1, .int .u64 n2, .int .u64 n3], .agg #[.int .u64 a0, .int .u64 a1, .int .u64 a2, .int .u64 a3]] w fun e w' => e = .returned (.agg #[.int .u64 0, .int .u64 0, .int .u64 0, .int .u64 0]) ∧ Below w.heap.size w w' := by
  have HBL : Hid _ := BL
  clear BL
  go_enter Tryz.func48, Tryz.ntmps48
  go_upto_region 1 with fail
  have X1 : Hid (Bx w [(w.heap.size + 1 + 1, 0, 0, 0, 0), (w.heap.size + 1, a0, a1, a2, a3), (w.heap.size, n0, n1, n2, n3)] (((w.alloc (.cells #[.int .u64 n0, .int .u64 n1, .int .u64 n2, .int .u64 n3] 24)).alloc (.cells #[.int .u64 a0, .int .u64 a1, .int .u64 a2, .int .u64 a3] 24)).alloc (.cells #[.int .u64 0, .int .u64 0, .int .u64 0, .int .u64 0] 24))) := by
    have h := (((Bx.start w).alloc n0 n1 n2 n3).alloc a0 a1 a2 a3).alloc 0 0 0 0
    (try simp only [World.size_alloc] at h)
    exact h
  generalize (((w.alloc (.cells #[.int .u64 n0, .int .u64 n1, .int .u64 n2, .int .u64 n3] 24)).alloc (.cells #[.int .u64 a0, .int .u64 a1, .int .u64 a2, .int .u64 a3] 24)).alloc (.cells #[.int .u64 0, .int .u64 0, .int .u64 0, .int .u64 0] 24)) = g2 at X1 ⊢
  obtain ⟨k3_2_0, k3_2_1, k3_2_2, k3_2_3, k3_2_4, k3_2_5, k3_2_6, k3_2_7⟩ := X1.out.f0 mm2
  go_upto_region 2 with (first | (go_at_call 100; refine (HBL.out _).mono ?_; rintro e g5 ⟨rfl, hB⟩; (have X4 : Hid _ := X1.out.past hB); clear hB X1 k3_2_0 k3_2_1 k3_2_2 k3_2_3 k3_2_4 k3_2_5 k3_2_6 k3_2_7; obtain ⟨k6_2_0, k6_2_1, k6_2_2, k6_2_3, k6_2_4, k6_2_5, k6_2_6, k6_2_7⟩ := X4.out.f0 mm2))
  clear k6_2_0 k6_2_1 k6_2_2 k6_2_3 k6_2_4 k6_2_5 k6_2_6 k6_2_7
  go_upto_region 3 with fail
  obtain ⟨k8_0_0, k8_0_1, k8_0_2, k8_0_3, k8_0_4, k8_0_5, k8_0_6, k8_0_7⟩ := X4.out.f0 mm0
  go_wp2
  clear k8_0_0 k8_0_1 k8_0_2 k8_0_3 k8_0_4 k8_0_5 k8_0_6 k8_0_7
  have X9 : Hid (Bx w ((w.heap.size + 1 + 1, 0, 0, 0, 0) :: [(w.heap.size + 1, a0, a1, a2, a3), (w.heap.size, n0, n1, n2, n3)]) ((((g5.setCell ⟨w.heap.size + 1 + 1, 0, none⟩ (.int .u64 0)).setCell ⟨w.heap.size + 1 + 1, 1, none⟩ (.int .u64 0)).setCell ⟨w.heap.size + 1 + 1, 2, none⟩ (.int .u64 0)).setCell ⟨w.heap.size + 1 + 1, 3, none⟩ (.int .u64 0))) := Bx.put (Bx.sub X4.out (l := [(w.heap.size + 1 + 1, 0, 0, 0, 0), (w.heap.size + 1, a0, a1, a2, a3), (w.heap.size, n0, n1, n2, n3)]) (m := [(w.heap.size + 1 + 1, 0, 0, 0, 0), (w.heap.size + 1, a0, a1, a2, a3), (w.heap.size, n0, n1, n2, n3)]) (by intro p hp; simp only [List.mem_cons, List.not_mem_nil, or_false] at hp ⊢; rcases hp with rfl | rfl | rfl <;> simp)) (by intro p hp; simp only [List.mem_cons, List.not_mem_nil, or_false] at hp; rcases hp with rfl | rfl <;> simp <;> omega) 0 0 0 0
  generalize ((((g5.setCell ⟨w.heap.size + 1 + 1, 0, none⟩ (.int .u64 0)).setCell ⟨w.heap.size + 1 + 1, 1, none⟩ (.int .u64 0)).setCell ⟨w.heap.size + 1 + 1, 2, none⟩ (.int .u64 0)).setCell ⟨w.heap.size + 1 + 1, 3, none⟩ (.int .u64 0)) = g10 at X9 ⊢
  clear X4
  refine bodyPost_ret (v := .agg #[.int .u64 0, .int .u64 0, .int .u64 0, .int .u64 0]) ?_ rfl ⟨rfl, X9.out.bel⟩
  exact results_c Tryz.results48 _ _ _ ⟨w.heap.size + 1 + 1, 0, none⟩ rfl (loadVar4 (X9.out.box _ mm0))
set_option maxHeartbeats 4000000 in
set_option maxRecDepth 100000 in
theorem shr_ge (n0 n1 n2 n3 a0 a1 a2 a3 : Int) (BL : ∀ w : World, Calls Tryz.prog 100 #[.agg #[.int .u64 n0, .int .u64 n1, .int .u64 n2, .int .u64 n3], .int .u64 256] w fun e w' => e = .returned (.tuple #[.int .u64 0, .bool false]) ∧ Below w.heap.size w w') (w : World) :
    Calls Tryz.prog 50 #[.agg #[.int .u64 n0, .int .u64 n1, .int .u64 n2, .int .u64 n3], .agg #[.int .u64 a0, .int .u64 a1, .int .u64 a2, .int .u64 a3]] w fun e w' => e = .returned (.agg #[.int .u64 0, .int .u64 0, .int .u64 0, .int .u64 0]) ∧ Below w.heap.size w w' := by
  have HBL : Hid _ := BL
  clear BL
  go_enter Tryz.func50, Tryz.ntmps50
  go_upto_region 1 with fail
  have X1 : Hid (Bx w [(w.heap.size + 1 + 1, 0, 0, 0, 0), (w.heap.size + 1, a0, a1, a2, a3), (w.heap.size, n0, n1, n2, n3)] (((w.alloc (.cells #[.int .u64 n0, .int .u64 n1, .int .u64 n2, .int .u64 n3] 24)).alloc (.cells #[.int .u64 a0, .int .u64 a1, .int .u64 a2, .int .u64 a3] 24)).alloc (.cells #[.int .u64 0, .int .u64 0, .int .u64 0, .int .u64 0] 24))) := by
    have h := (((Bx.start w).alloc n0 n1 n2 n3).alloc a0 a1 a2 a3).alloc 0 0 0 0
    (try simp only [World.size_alloc] at h)
    exact h
  generalize (((w.alloc (.cells #[.int .u64 n0, .int .u64 n1, .int .u64 n2, .int .u64 n3] 24)).alloc (.cells #[.int .u64 a0, .int .u64 a1, .int .u64 a2, .int .u64 a3] 24)).alloc (.cells #[.int .u64 0, .int .u64 0, .int .u64 0, .int .u64 0] 24)) = g2 at X1 ⊢
  obtain ⟨k3_2_0, k3_2_1, k3_2_2, k3_2_3, k3_2_4, k3_2_5, k3_2_6, k3_2_7⟩ := X1.out.f0 mm2
  go_upto_region 2 with (first | (go_at_call 100; refine (HBL.out _).mono ?_; rintro e g5 ⟨rfl, hB⟩; (have X4 : Hid _ := X1.out.past hB); clear hB X1 k3_2_0 k3_2_1 k3_2_2 k3_2_3 k3_2_4 k3_2_5 k3_2_6 k3_2_7; obtain ⟨k6_2_0, k6_2_1, k6_2_2, k6_2_3, k6_2_4, k6_2_5, k6_2_6, k6_2_7⟩ := X4.out.f0 mm2))
  clear k6_2_0 k6_2_1 k6_2_2 k6_2_3 k6_2_4 k6_2_5 k6_2_6 k6_2_7
  go_upto_region 3 with fail
  obtain ⟨k8_0_0, k8_0_1, k8_0_2, k8_0_3, k8_0_4, k8_0_5, k8_0_6, k8_0_7⟩ := X4.out.f0 mm0
  go_wp2
  clear k8_0_0 k8_0_1 k8_0_2 k8_0_3 k8_0_4 k8_0_5 k8_0_6 k8_0_7
  have X9 : Hid (Bx w ((w.heap.size + 1 + 1, 0, 0, 0, 0) :: [(w.heap.size + 1, a0, a1, a2, a3), (w.heap.size, n0, n1, n2, n3)]) ((((g5.setCell ⟨w.heap.size + 1 + 1, 0, none⟩ (.int .u64 0)).setCell ⟨w.heap.size + 1 + 1, 1, none⟩ (.int .u64 0)).setCell ⟨w.heap.size + 1 + 1, 2, none⟩ (.int .u64 0)).setCell ⟨w.heap.size + 1 + 1, 3, none⟩ (.int .u64 0))) := Bx.put (Bx.sub X4.out (l := [(w.heap.size + 1 + 1, 0, 0, 0, 0), (w.heap.size + 1, a0, a1, a2, a3), (w.heap.size, n0, n1, n2, n3)]) (m := [(w.heap.size + 1 + 1, 0, 0, 0, 0), (w.heap.size + 1, a0, a1, a2, a3), (w.heap.size, n0, n1, n2, n3)]) (by intro p hp; simp only [List.mem_cons, List.not_mem_nil, or_false] at hp ⊢; rcases hp with rfl | rfl | rfl <;> simp)) (by intro p hp; simp only [List.mem_cons, List.not_mem_nil, or_false] at hp; rcases hp with rfl | rfl <;> simp <;> omega) 0 0 0 0
  generalize ((((g5.setCell ⟨w.heap.size + 1 + 1, 0, none⟩ (.int .u64 0)).setCell ⟨w.heap.size + 1 + 1, 1, none⟩ (.int .u64 0)).setCell ⟨w.heap.size + 1 + 1, 2, none⟩ (.int .u64 0)).setCell ⟨w.heap.size + 1 + 1, 3, none⟩ (.int .u64 0)) = g10 at X9 ⊢
  clear X4
  refine bodyPost_ret (v := .agg #[.int .u64 0, .int .u64 0, .int .u64 0, .int .u64 0]) ?_ rfl ⟨rfl, X9.out.bel⟩
  exact results_c Tryz.results50 _ _ _ ⟨w.heap.size + 1 + 1, 0, none⟩ rfl (loadVar4 (X9.out.box _ mm0))
set_option maxHeartbeats 4000000 in
set_option maxRecDepth 100000 in
theorem shr_lt (n0 n1 n2 n3 a0 a1 a2 a3 z0 z1 z2 z3 : Int) (BL : ∀ w : World, Calls Tryz.prog 100 #[.agg #[.int .u64 n0, .int .u64 n1, .int .u64 n2, .int .u64 n3], .int .u64 256] w fun e w' => e = .returned (.tuple #[.int .u64 n0, .bool true]) ∧ Below w.heap.size w w') (SD : ∀ w : World, Calls Tryz.prog 101 #[.agg #[.int .u64 a0, .int .u64 a1, .int .u64 a2, .int .u64 a3], .int .u64 n0, .int .u64 0] w fun e w' => e = .returned (.agg #[.int .u64 z0, .int .u64 z1, .int .u64 z2, .int .u64 z3]) ∧ Below w.heap.size w w') (w : World) :
    Calls Tryz.prog 50 #[.agg #[.int .u64 n0, .int .u64 n1, .int .u64 n2, .int .u64 n3], .agg #[.int .u64 a0, .int .u64 a1, .int .u64 a2, .int .u64 a3]] w fun e w' => e = .returned (.agg #[.int .u64 z0, .int .u64 z1, .int .u64 z2, .int .u64 z3]) ∧ Below w.heap.size w w' := by
  have HBL : Hid _ := BL
  have HSD : Hid _ := SD
  clear BL SD
  go_enter Tryz.func50, Tryz.ntmps50
  go_upto_region 1 with fail
  have X1 : Hid (Bx w [(w.heap.size + 1 + 1, 0, 0, 0, 0), (w.heap.size + 1, a0, a1, a2, a3), (w.heap.size, n0, n1, n2, n3)] (((w.alloc (.cells #[.int .u64 n0, .int .u64 n1, .int .u64 n2, .int .u64 n3] 24)).alloc (.cells #[.int .u64 a0, .int .u64 a1, .int .u64 a2, .int .u64 a3] 24)).alloc (.cells #[.int .u64 0, .int .u64 0, .int .u64 0, .int .u64 0] 24))) := by
    have h := (((Bx.start w).alloc n0 n1 n2 n3).alloc a0 a1 a2 a3).alloc 0 0 0 0
    (try simp only [World.size_alloc] at h)
    exact h
  generalize (((w.alloc (.cells #[.int .u64 n0, .int .u64 n1, .int .u64 n2, .int .u64 n3] 24)).alloc (.cells #[.int .u64 a0, .int .u64 a1, .int .u64 a2, .int .u64 a3] 24)).alloc (.cells #[.int .u64 0, .int .u64 0, .int .u64 0, .int .u64 0] 24)) = g2 at X1 ⊢
  obtain ⟨k3_2_0, k3_2_1, k3_2_2, k3_2_3, k3_2_4, k3_2_5, k3_2_6, k3_2_7⟩ := X1.out.f0 mm2
  go_upto_region 2 with (first | (go_at_call 100; refine (HBL.out _).mono ?_; rintro e g5 ⟨rfl, hB⟩; (have X4 : Hid _ := X1.out.past hB); clear hB X1 k3_2_0 k3_2_1 k3_2_2 k3_2_3 k3_2_4 k3_2_5 k3_2_6 k3_2_7; obtain ⟨k6_2_0, k6_2_1, k6_2_2, k6_2_3, k6_2_4, k6_2_5, k6_2_6, k6_2_7⟩ := X4.out.f0 mm2))
  clear k6_2_0 k6_2_1 k6_2_2 k6_2_3 k6_2_4 k6_2_5 k6_2_6 k6_2_7
  go_upto_region 4 with fail
  obtain ⟨k8_0_0, k8_0_1, k8_0_2, k8_0_3, k8_0_4, k8_0_5, k8_0_6, k8_0_7⟩ := X4.out.f0 mm0
  obtain ⟨k8_1_0, k8_1_1, k8_1_2, k8_1_3, k8_1_4, k8_1_5, k8_1_6, k8_1_7⟩ := X4.out.f0 mm1
  go_wp2_with (first | (go_at_call 101; refine (HSD.out _).mono ?_; rintro e g10 ⟨rfl, hB⟩; (have X9 : Hid _ := X4.out.past hB); clear hB X4 k8_0_0 k8_0_1 k8_0_2 k8_0_3 k8_0_4 k8_0_5 k8_0_6 k8_0_7 k8_1_0 k8_1_1 k8_1_2 k8_1_3 k8_1_4 k8_1_5 k8_1_6 k8_1_7; obtain ⟨k11_0_0, k11_0_1, k11_0_2, k11_0_3, k11_0_4, k11_0_5, k11_0_6, k11_0_7⟩ := X9.out.f0 mm0; obtain ⟨k11_1_0, k11_1_1, k11_1_2, k11_1_3, k11_1_4, k11_1_5, k11_1_6, k11_1_7⟩ := X9.out.f0 mm1))
  clear k11_0_0 k11_0_1 k11_0_2 k11_0_3 k11_0_4 k11_0_5 k11_0_6 k11_0_7 k11_1_0 k11_1_1 k11_1_2 k11_1_3 k11_1_4 k11_1_5 k11_1_6 k11_1_7
  have X12 : Hid (Bx w ((w.heap.size + 1 + 1, z0, z1, z2, z3) :: [(w.heap.size + 1, a0, a1, a2, a3), (w.heap.size, n0, n1, n2, n3)]) ((((g10.setCell ⟨w.heap.size + 1 + 1, 0, none⟩ (.int .u64 z0)).setCell ⟨w.heap.size + 1 + 1, 1, none⟩ (.int .u64 z1)).setCell ⟨w.heap.size + 1 + 1, 2, none⟩ (.int .u64 z2)).setCell ⟨w.heap.size + 1 + 1, 3, none⟩ (.int .u64 z3))) := Bx.put (Bx.sub X9.out (l := [(w.heap.size + 1 + 1, 0, 0, 0, 0), (w.heap.size + 1, a0, a1, a2, a3), (w.heap.size, n0, n1, n2, n3)]) (m := [(w.heap.size + 1 + 1, 0, 0, 0, 0), (w.heap.size + 1, a0, a1, a2, a3), (w.heap.size, n0, n1, n2, n3)]) (by intro p hp; simp only [List.mem_cons, List.not_mem_nil, or_false] at hp ⊢; rcases hp with rfl | rfl | rfl <;> simp)) (by intro p hp; simp only [List.mem_cons, List.not_mem_nil, or_false] at hp; rcases hp with rfl | rfl <;> simp <;> omega) z0 z1 z2 z3
  generalize ((((g10.setCell ⟨w.heap.size + 1 + 1, 0, none⟩ (.int .u64 z0)).setCell ⟨w.heap.size + 1 + 1, 1, none⟩ (.int .u64 z1)).setCell ⟨w.heap.size + 1 + 1, 2, none⟩ (.int .u64 z2)).setCell ⟨w.heap.size + 1 + 1, 3, none⟩ (.int .u64 z3)) = g13 at X12 ⊢
  clear X9
  refine bodyPost_ret (v := .agg #[.int .u64 z0, .int .u64 z1, .int .u64 z2, .int .u64 z3]) ?_ rfl ⟨rfl, X12.out.bel⟩
  exact results_c Tryz.results50 _ _ _ ⟨w.heap.size + 1 + 1, 0, none⟩ rfl (loadVar4 (X12.out.box _ mm0))
set_option maxHeartbeats 4000000 in
set_option maxRecDepth 100000 in
theorem sar_ge (n0 n1 n2 n3 a0 a1 a2 a3 z0 z1 z2 z3 : Int) (f0 : Int) (BL : ∀ w : World, Calls Tryz.prog 100 #[.agg #[.int .u64 n0, .int .u64 n1, .int .u64 n2, .int .u64 n3], .int .u64 256] w fun e w' => e = .returned (.tuple #[.int .u64 0, .bool false]) ∧ Below w.heap.size w w') (SG : ∀ w : World, Calls Tryz.prog 102 #[.agg #[.int .u64 a0, .int .u64 a1, .int .u64 a2, .int .u64 a3]] w fun e w' => e = .returned (.int .u64 f0) ∧ Below w.heap.size w w') (SD : ∀ w : World, Calls Tryz.prog 101 #[.agg #[.int .u64 a0, .int .u64 a1, .int .u64 a2, .int .u64 a3], .int .u64 255, .int .u64 f0] w fun e w' => e = .returned (.agg #[.int .u64 z0, .int .u64 z1, .int .u64 z2, .int .u64 z3]) ∧ Below w.heap.size w w') (w : World) :
    Calls Tryz.prog 30 #[.agg #[.int .u64 n0, .int .u64 n1, .int .u64 n2, .int .u64 n3], .agg #[.int .u64 a0, .int .u64 a1, .int .u64 a2, .int .u64 a3]] w fun e w' => e = .returned (.agg #[.int .u64 z0, .int .u64 z1, .int .u64 z2, .int .u64 z3]) ∧ Below w.heap.size w w' := by
  have HBL : Hid _ := BL
  have HSG : Hid _ := SG
  have HSD : Hid _ := SD
  clear BL SG SD
  go_enter Tryz.func30, Tryz.ntmps30
  go_upto_region 1 with fail
  have X1 : Hid (Bx w [(w.heap.size + 1 + 1, 0, 0, 0, 0), (w.heap.size + 1, a0, a1, a2, a3), (w.heap.size, n0, n1, n2, n3)] (((w.alloc (.cells #[.int .u64 n0, .int .u64 n1, .int .u64 n2, .int .u64 n3] 24)).alloc (.cells #[.int .u64 a0, .int .u64 a1, .int .u64 a2, .int .u64 a3] 24)).alloc (.cells #[.int .u64 0, .int .u64 0, .int .u64 0, .int .u64 0] 24))) := by
    have h := (((Bx.start w).alloc n0 n1 n2 n3).alloc a0 a1 a2 a3).alloc 0 0 0 0
    (try simp only [World.size_alloc] at h)
    exact h
  generalize (((w.alloc (.cells #[.int .u64 n0, .int .u64 n1, .int .u64 n2, .int .u64 n3] 24)).alloc (.cells #[.int .u64 a0, .int .u64 a1, .int .u64 a2, .int .u64 a3] 24)).alloc (.cells #[.int .u64 0, .int .u64 0, .int .u64 0, .int .u64 0] 24)) = g2 at X1 ⊢
  obtain ⟨k3_2_0, k3_2_1, k3_2_2, k3_2_3, k3_2_4, k3_2_5, k3_2_6, k3_2_7⟩ := X1.out.f0 mm2
  go_upto_region 2 with (first | (go_at_call 100; refine (HBL.out _).mono ?_; rintro e g5 ⟨rfl, hB⟩; (have X4 : Hid _ := X1.out.past hB); clear hB X1 k3_2_0 k3_2_1 k3_2_2 k3_2_3 k3_2_4 k3_2_5 k3_2_6 k3_2_7; obtain ⟨k6_2_0, k6_2_1, k6_2_2, k6_2_3, k6_2_4, k6_2_5, k6_2_6, k6_2_7⟩ := X4.out.f0 mm2))
  clear k6_2_0 k6_2_1 k6_2_2 k6_2_3 k6_2_4 k6_2_5 k6_2_6 k6_2_7
  go_upto_region 3 with fail
  go_upto_region 4 with fail
  refine wp_region_held_drew (S := fun w' => Bx w [(w.heap.size + 1, a0, a1, a2, a3), (w.heap.size, n0, n1, n2, n3)] w') (by kernel_rfl) (Bx.sub X4.out.drew (l := [(w.heap.size + 1 + 1, 0, 0, 0, 0), (w.heap.size + 1, a0, a1, a2, a3), (w.heap.size, n0, n1, n2, n3)]) (m := [(w.heap.size + 1, a0, a1, a2, a3), (w.heap.size, n0, n1, n2, n3)]) (by intro p hp; simp only [List.mem_cons, List.not_mem_nil, or_false] at hp ⊢; rcases hp with rfl | rfl <;> simp)) (fun _ => ?_)
  have hHeld : Bx w [(w.heap.size + 1 + 1, 0, 0, 0, 0), (w.heap.size + 1, a0, a1, a2, a3), (w.heap.size, n0, n1, n2, n3)] g5.drew := (Bx.sub X4.out.drew (l := [(w.heap.size + 1 + 1, 0, 0, 0, 0), (w.heap.size + 1, a0, a1, a2, a3), (w.heap.size, n0, n1, n2, n3)]) (m := [(w.heap.size + 1 + 1, 0, 0, 0, 0), (w.heap.size + 1, a0, a1, a2, a3), (w.heap.size, n0, n1, n2, n3)]) (by intro p hp; simp only [List.mem_cons, List.not_mem_nil, or_false] at hp ⊢; rcases hp with rfl | rfl | rfl <;> simp))
  generalize g5.drew = g9 at hHeld ⊢
  clear X4
  refine wpAnyH_take (i := 0) (v := .agg #[.int .u64 a0, .int .u64 a1, .int .u64 a2, .int .u64 a3]) op0 (by kernel_rfl) (by kernel_rfl) (by kernel_rfl) (fun _ _ _ h => h) (Or.inl ⟨by rfl, fun W hS => ?_⟩) (Bx.sub hHeld (fun p hp => List.Mem.tail _ hp)) ?_
  · obtain ⟨c0, c1, c2, c3, _⟩ := hS.f0 mm0
    go_simp
  simp only [Act.put, List.setIfInBounds_toArray, List.set_cons_zero, List.set_cons_succ]
  refine wpAnyH_take (i := 1) (v := .int .u64 255) op1 (by kernel_rfl) (by kernel_rfl) (by kernel_rfl) (fun _ _ _ h => h) (Or.inl ⟨by rfl, fun W hS => ?_⟩) (Bx.sub hHeld (fun p hp => List.Mem.tail _ hp)) ?_
  · go_simp
  simp only [Act.put, List.setIfInBounds_toArray, List.set_cons_zero, List.set_cons_succ]
  refine wpAnyH_take (i := 2) (v := .agg #[.int .u64 a0, .int .u64 a1, .int .u64 a2, .int .u64 a3]) op2 (by kernel_rfl) (by kernel_rfl) (by kernel_rfl) (fun _ _ _ h => h) (Or.inl ⟨by rfl, fun W hS => ?_⟩) (Bx.sub hHeld (fun p hp => List.Mem.tail _ hp)) ?_
  · obtain ⟨c0, c1, c2, c3, _⟩ := hS.f0 mm0
    go_simp
  simp only [Act.put, List.setIfInBounds_toArray, List.set_cons_zero, List.set_cons_succ]
  refine wpAnyH_ready (rs := [3]) (by kernel_rfl) (by simp) ?_
  refine AllReadyH.cons op3 (fun K hK => ?_) AllReadyH.nil
  rw [if_pos (by rfl)]
  go_simp
  refine (HSG.out _).mono ?_
  rintro e g10 ⟨rfl, hB⟩
  have x11 := hHeld.past hB
  clear hB hHeld
  (try go_wp2_with fail)
  refine hK.out _ _ (Bx.sub x11 (fun p hp => List.Mem.tail _ hp)) (fun _ => ?_)
  clear hK K
  refine wpAnyH_ready (rs := [4]) (by kernel_rfl) (by simp) ?_
  refine AllReadyH.cons op4 (fun K hK => ?_) AllReadyH.nil
  rw [if_pos (by rfl)]
  go_simp
  refine (HSD.out _).mono ?_
  rintro e g12 ⟨rfl, hB⟩
  have x13 := x11.past hB
  clear hB x11
  (try go_wp2_with fail)
  refine hK.out _ _ (Bx.sub x13 (fun p hp => List.Mem.tail _ hp)) (fun _ => ?_)
  clear hK K
  refine wpAnyH_ready (rs := [5]) (by kernel_rfl) (by simp) ?_
  refine AllReadyH.cons op5 (fun K hK => ?_) AllReadyH.nil
  rw [if_pos (by rfl)]
  obtain ⟨c0, c1, c2, c3, f0, f1, f2, f3⟩ := x13.f0 mm0
  go_simp
  have x15 : Bx w ((w.heap.size + 1 + 1, z0, z1, z2, z3) :: [(w.heap.size + 1, a0, a1, a2, a3), (w.heap.size, n0, n1, n2, n3)]) ((((g12.setCell ⟨w.heap.size + 1 + 1, 0, none⟩ (.int .u64 z0)).setCell ⟨w.heap.size + 1 + 1, 1, none⟩ (.int .u64 z1)).setCell ⟨w.heap.size + 1 + 1, 2, none⟩ (.int .u64 z2)).setCell ⟨w.heap.size + 1 + 1, 3, none⟩ (.int .u64 z3)) := Bx.put x13 (by intro p hp; simp only [List.mem_cons, List.not_mem_nil, or_false] at hp; rcases hp with rfl | rfl <;> simp <;> omega) z0 z1 z2 z3
  refine hK.out _ _ (Bx.sub x15 (fun p hp => List.Mem.tail _ hp)) (fun _ => ?_)
  clear hK K c0 c1 c2 c3 f0 f1 f2 f3 x13
  generalize ((((g12.setCell ⟨w.heap.size + 1 + 1, 0, none⟩ (.int .u64 z0)).setCell ⟨w.heap.size + 1 + 1, 1, none⟩ (.int .u64 z1)).setCell ⟨w.heap.size + 1 + 1, 2, none⟩ (.int .u64 z2)).setCell ⟨w.heap.size + 1 + 1, 3, none⟩ (.int .u64 z3)) = g14 at x15 ⊢
  (try simp only [Act.put])
  refine wpAnyH_done (by kernel_rfl) ?_ _
  have X16 : Hid (Bx w [(w.heap.size + 1 + 1, z0, z1, z2, z3), (w.heap.size + 1, a0, a1, a2, a3), (w.heap.size, n0, n1, n2, n3)] g14) := x15
  clear x15
  go_wp2
  refine bodyPost_ret (v := .agg #[.int .u64 z0, .int .u64 z1, .int .u64 z2, .int .u64 z3]) ?_ rfl ⟨rfl, X16.out.bel⟩
  exact results_c Tryz.results30 _ _ _ ⟨w.heap.size + 1 + 1, 0, none⟩ rfl (loadVar4 (X16.out.box _ mm0))
end Go.Proofs.YtpadpmkfhljiiaaGreat
/- Word by word: the program's And, Or, Xor, Not, Byte, Shl, Shr, Clz, Size and the document's give the same. -/
namespace Go.Proofs.YtpadpmkfhljiiaaGreat
open Go.RowKit
/-- two functions give the same word -/
def Pair (f g : Nat) (args : Array Value) : Prop := ∃ p0 p1 p2 p3 : Int, (∀ w : World, Calls Tryz.prog f args w fun e w' => e = .returned (.agg #[.int .u64 p0, .int .u64 p1, .int .u64 p2, .int .u64 p3]) ∧ Below w.heap.size w w') ∧ (∀ w : World, Calls Tryz.prog g args w fun e w' => e = .returned (.agg #[.int .u64 p0, .int .u64 p1, .int .u64 p2, .int .u64 p3]) ∧ Below w.heap.size w w')
set_option maxHeartbeats 4000000 in
set_option maxRecDepth 100000 in
theorem byte_ge (a0 a1 a2 a3 b0 b1 b2 b3 : Int) (BL : ∀ W : World, Calls Tryz.prog 100 #[.agg #[.int .u64 a0, .int .u64 a1, .int .u64 a2, .int .u64 a3], .int .u64 32] W fun e w' => e = .returned (.tuple #[.int .u64 0, .bool false]) ∧ Below W.heap.size W w') (w : World) :
    Calls Tryz.prog 46 #[.agg #[.int .u64 a0, .int .u64 a1, .int .u64 a2, .int .u64 a3], .agg #[.int .u64 b0, .int .u64 b1, .int .u64 b2, .int .u64 b3]] w fun e w' => e = .returned (.agg #[.int .u64 0, .int .u64 0, .int .u64 0, .int .u64 0]) ∧ Below w.heap.size w w' := by
  have HBL : Hid _ := BL
  clear BL
  go_enter Tryz.func46, Tryz.ntmps46
  go_upto_region 1 with fail
  have K0 : Hid (Bx w [(w.heap.size + 1 + 1, 0, 0, 0, 0), (w.heap.size + 1, b0, b1, b2, b3), (w.heap.size, a0, a1, a2, a3)] (((w.alloc (.cells #[.int .u64 a0, .int .u64 a1, .int .u64 a2, .int .u64 a3] 24)).alloc (.cells #[.int .u64 b0, .int .u64 b1, .int .u64 b2, .int .u64 b3] 24)).alloc (.cells #[.int .u64 0, .int .u64 0, .int .u64 0, .int .u64 0] 24))) := by
    have h := (((Bx.start w).alloc a0 a1 a2 a3).alloc b0 b1 b2 b3).alloc 0 0 0 0
    (try simp only [World.size_alloc] at h)
    exact h
  generalize (((w.alloc (.cells #[.int .u64 a0, .int .u64 a1, .int .u64 a2, .int .u64 a3] 24)).alloc (.cells #[.int .u64 b0, .int .u64 b1, .int .u64 b2, .int .u64 b3] 24)).alloc (.cells #[.int .u64 0, .int .u64 0, .int .u64 0, .int .u64 0] 24)) = W0 at K0 ⊢
  obtain ⟨c0, c1, c2, c3, _⟩ := K0.out.f0 mm2
  go_upto_region 2 with (go_at_call 100; refine (HBL.out _).mono ?_; rintro e g0 ⟨rfl, hB⟩; (have K2 : Hid _ := K0.out.past hB); clear hB c0 c1 c2 c3 K0)
  obtain ⟨r0, r1, r2, r3, f0, f1, f2, f3⟩ := K2.out.f0 mm0
  go_wp2
  exact bodyPost_ret (v := .agg #[.int .u64 0, .int .u64 0, .int .u64 0, .int .u64 0]) (by simp [results, Tryz.results46, go_sem, r0, r1, r2, r3]) rfl ⟨rfl, below_put K2.out.bel (by omega) _ _ _ _⟩
theorem and_lt64 (a b : Nat) (ha : a < 2 ^ 64) (_ : b < 2 ^ 64) : a &&& b < 2 ^ 64 := Nat.lt_of_le_of_lt Nat.and_le_left ha
theorem mul_le1 {x y : Nat} (hx : x ≤ 1) (hy : y ≤ 1) : x * y ≤ 1 := Nat.mul_le_mul hx hy
theorem pair_and {x y : Int} {a0 a1 a2 a3 b0 b1 b2 b3 : Int} (ha : IsW x a0 a1 a2 a3) (hb : IsW y b0 b1 b2 b3) : Pair 38 39 #[.agg #[.int .u64 a0, .int .u64 a1, .int .u64 a2, .int .u64 a3], .agg #[.int .u64 b0, .int .u64 b1, .int .u64 b2, .int .u64 b3]] := by
  obtain ⟨X, hX, eX, lX⟩ := mod_nat ha
  obtain ⟨Y, hY, eY, lY⟩ := mod_nat hb
  refine ⟨_, _, _, _, fun w => and_any a0 a1 a2 a3 b0 b1 b2 b3 w, fun w => ?_⟩
  exact rand_r a0 a1 a2 a3 b0 b1 b2 b3 _ _ _ _ X Y (fun W => bits_is x a0 a1 a2 a3 W ha X hX) (fun W => bits_is y b0 b1 b2 b3 W hb Y hY) (fun i => bitf X i * bitf Y i) (fun _ => rfl) (fun W => joined_is _ (fun i => mul_le1 (bitf_le X i) (bitf_le Y i)) W _ _ _ _ (isW_bin ha hb hX hY (fun p q => p * q) (fun p q => p &&& q) (fun p q => bits .and .u64 p q) bitf_and and_lt64 u64_and_nat)) w
theorem pair_or {x y : Int} {a0 a1 a2 a3 b0 b1 b2 b3 : Int} (ha : IsW x a0 a1 a2 a3) (hb : IsW y b0 b1 b2 b3) : Pair 40 41 #[.agg #[.int .u64 a0, .int .u64 a1, .int .u64 a2, .int .u64 a3], .agg #[.int .u64 b0, .int .u64 b1, .int .u64 b2, .int .u64 b3]] := by
  obtain ⟨X, hX, eX, lX⟩ := mod_nat ha
  obtain ⟨Y, hY, eY, lY⟩ := mod_nat hb
  refine ⟨_, _, _, _, fun w => or_any a0 a1 a2 a3 b0 b1 b2 b3 w, fun w => ?_⟩
  exact ror_r a0 a1 a2 a3 b0 b1 b2 b3 _ _ _ _ X Y (fun W => bits_is x a0 a1 a2 a3 W ha X hX) (fun W => bits_is y b0 b1 b2 b3 W hb Y hY) (fun i => bitf X i + bitf Y i - bitf X i * bitf Y i) (fun _ => rfl) (fun W => joined_is _ (fun i => by rw [← bitf_or]; exact bitf_le _ _) W _ _ _ _ (isW_bin ha hb hX hY (fun p q => p + q - p * q) (fun p q => p ||| q) (fun p q => bits .or .u64 p q) bitf_or (fun _ _ h1 h2 => Nat.or_lt_two_pow h1 h2) u64_or_nat)) w
theorem pair_xor {x y : Int} {a0 a1 a2 a3 b0 b1 b2 b3 : Int} (ha : IsW x a0 a1 a2 a3) (hb : IsW y b0 b1 b2 b3) : Pair 42 43 #[.agg #[.int .u64 a0, .int .u64 a1, .int .u64 a2, .int .u64 a3], .agg #[.int .u64 b0, .int .u64 b1, .int .u64 b2, .int .u64 b3]] := by
  obtain ⟨X, hX, eX, lX⟩ := mod_nat ha
  obtain ⟨Y, hY, eY, lY⟩ := mod_nat hb
  refine ⟨_, _, _, _, fun w => xor_any a0 a1 a2 a3 b0 b1 b2 b3 w, fun w => ?_⟩
  exact rxor_r a0 a1 a2 a3 b0 b1 b2 b3 _ _ _ _ X Y (fun W => bits_is x a0 a1 a2 a3 W ha X hX) (fun W => bits_is y b0 b1 b2 b3 W hb Y hY) (fun i => (bitf X i + bitf Y i) % 2) (fun _ => rfl) (fun W => joined_is _ (fun i => by rw [← bitf_xor]; exact bitf_le _ _) W _ _ _ _ (isW_bin ha hb hX hY (fun p q => (p + q) % 2) (fun p q => p ^^^ q) (fun p q => bits .xor .u64 p q) bitf_xor (fun _ _ h1 h2 => Nat.xor_lt_two_pow h1 h2) u64_xor_nat)) w
theorem pair_not {x : Int} {a0 a1 a2 a3 : Int} (ha : IsW x a0 a1 a2 a3) : Pair 44 45 #[.agg #[.int .u64 a0, .int .u64 a1, .int .u64 a2, .int .u64 a3]] := by
  obtain ⟨X, hX, eX, lX⟩ := mod_nat ha
  obtain ⟨p0, p1, p2, p3, hp⟩ := isW_ex (-1 - x)
  refine ⟨p0, p1, p2, p3, fun w => not_is x a0 a1 a2 a3 p0 p1 p2 p3 w ha hp, fun w => ?_⟩
  refine rnot_r a0 a1 a2 a3 p0 p1 p2 p3 X (fun i => 1 - bitf X i) (fun W => bits_is x a0 a1 a2 a3 W ha X hX) (fun _ => rfl) (fun W => joined_is _ (fun i => by omega) W _ _ _ _ (hp.cong ?_)) w
  have h := bsum_compl (f := fun i => 1 - bitf X i) (g := bitf X) (fun i => by have := bitf_le X i; omega) 256
  rw [bsum_bitf_all lX, p256, p256n] at h
  have e : (bsum (fun i => 1 - bitf X i) 256 : Int) = MM - 1 - (x % MM) := by rw [← eX]; unfold MM; omega
  rw [e, show MM - 1 - x % MM = (-1 - x % MM) + MM by omega, Int.add_emod_right, Int.sub_emod_emod]
theorem mod_lit {n : Nat} {x : Int} (e : (n : Int) = x % MM) : x % MM = (n : Int) % MM := by
  rw [e, Int.emod_emod_of_dvd _ (Int.dvd_refl _)]
theorem pair_byte {x y : Int} {a0 a1 a2 a3 b0 b1 b2 b3 : Int} (ha : IsW x a0 a1 a2 a3) (hb : IsW y b0 b1 b2 b3) : Pair 46 47 #[.agg #[.int .u64 a0, .int .u64 a1, .int .u64 a2, .int .u64 a3], .agg #[.int .u64 b0, .int .u64 b1, .int .u64 b2, .int .u64 b3]] := by
  obtain ⟨A, hA, eA, lA⟩ := mod_nat ha
  obtain ⟨Y, hY, eY, lY⟩ := mod_nat hb
  have h32 : (32 : Int) % MM = 32 := by unfold MM; omega
  by_cases h : A < 32
  · have hA2 : IsW (A : Int) a0 a1 a2 a3 := ha.cong (mod_lit eA)
    obtain ⟨rfl, rfl, rfl, rfl⟩ := small_limbs _ _ _ _ hA2 (by omega) (by omega)
    refine ⟨_, _, _, _, fun w => byte_is A h b0 b1 b2 b3 w, fun w => ?_⟩
    have e : bb b0 b1 b2 b3 A = ((dig Y (31 - A) : Nat) : Int) := by
      unfold bb
      rw [bw_dig hb.u0 hb.u1 hb.u2 hb.u3 Y hY (31 - A) (by omega), dig, if_pos (by omega)]
    rw [e]
    have hd := dig_lt Y (31 - A)
    exact rbyte_r _ _ _ _ b0 b1 b2 b3 _ _ _ _ A Y _ (fun W => upTo_is _ _ _ _ _ W hA2 A (by unfold V Bd; omega) 32 (by omega) A (by omega)) (fun W => of_is y b0 b1 b2 b3 W hb Y hY) h (small_is _ (by omega)) rfl (isW_lit _ (by omega) (by omega)) w
  · refine ⟨0, 0, 0, 0, byte_ge a0 a1 a2 a3 b0 b1 b2 b3 (fun w => below_ge x 32 a0 a1 a2 a3 w ha (isW_lit 32 (by omega) (by omega)) (by rw [← eA, h32]; omega)), fun w => ?_⟩
    exact rbyte_0 a0 a1 a2 a3 b0 b1 b2 b3 (fun W => upTo_is x a0 a1 a2 a3 W ha A hA 32 (by omega) 32 (by omega)) w
theorem pair_shl {x y : Int} {a0 a1 a2 a3 b0 b1 b2 b3 : Int} (ha : IsW x a0 a1 a2 a3) (hb : IsW y b0 b1 b2 b3) : Pair 48 49 #[.agg #[.int .u64 a0, .int .u64 a1, .int .u64 a2, .int .u64 a3], .agg #[.int .u64 b0, .int .u64 b1, .int .u64 b2, .int .u64 b3]] := by
  obtain ⟨A, hA, eA, lA⟩ := mod_nat ha
  obtain ⟨Y, hY, eY, lY⟩ := mod_nat hb
  have h256 : (256 : Int) % MM = 256 := by unfold MM; omega
  by_cases h : A < 256
  · have hA2 : IsW (A : Int) a0 a1 a2 a3 := ha.cong (mod_lit eA)
    obtain ⟨rfl, rfl, rfl, rfl⟩ := small_limbs _ _ _ _ hA2 (by omega) (by omega)
    obtain ⟨z0, z1, z2, z3, SU, iz⟩ := shiftUp_ex y (A : Int) b0 b1 b2 b3 hb (by omega) (by omega)
    rw [show ((A : Int)).toNat = A by omega] at iz
    refine ⟨z0, z1, z2, z3, fun w => shl_lt (A : Int) b0 b1 b2 b3 z0 z1 z2 z3 w (by omega) (by omega) SU, fun w => ?_⟩
    refine rshl_r _ _ _ _ b0 b1 b2 b3 z0 z1 z2 z3 A Y _ (fun W => upTo_is _ _ _ _ _ W hA2 A (by unfold V Bd; omega) 256 (by omega) A (by omega)) (fun W => bits_is y b0 b1 b2 b3 W hb Y hY) (by omega) (fun _ => rfl) (fun W => joined_is _ (fun i => by split; omega; exact bitf_le _ _) W _ _ _ _ (iz.cong ?_)) w
    rw [bsum_shl Y A (by omega), Int.natCast_emod, MM_nat, Int.emod_emod_of_dvd _ (Int.dvd_refl _), Int.natCast_mul, natpow, eY, Int.mul_comm, Int.mul_emod, Int.mul_emod (2 ^ A) (y % MM), Int.emod_emod_of_dvd _ (Int.dvd_refl _)]
  · refine ⟨0, 0, 0, 0, shl_ge a0 a1 a2 a3 b0 b1 b2 b3 (fun w => below_ge x 256 a0 a1 a2 a3 w ha (isW_lit 256 (by omega) (by omega)) (by rw [← eA, h256]; omega)), fun w => ?_⟩
    refine rshl_r a0 a1 a2 a3 b0 b1 b2 b3 0 0 0 0 256 Y (fun i => if i < 256 then 0 else bitf Y (i - 256)) (fun W => upTo_is x a0 a1 a2 a3 W ha A hA 256 (by omega) 256 (by omega)) (fun W => bits_is y b0 b1 b2 b3 W hb Y hY) (by omega) (fun _ => rfl) (fun W => joined_is _ (fun i => by split; omega; exact bitf_le _ _) W _ _ _ _ ?_) w
    rw [bsum_zero 256 (fun i hi => by rw [if_pos hi])]; exact isW_0
theorem pair_shr {x y : Int} {a0 a1 a2 a3 b0 b1 b2 b3 : Int} (ha : IsW x a0 a1 a2 a3) (hb : IsW y b0 b1 b2 b3) : Pair 50 51 #[.agg #[.int .u64 a0, .int .u64 a1, .int .u64 a2, .int .u64 a3], .agg #[.int .u64 b0, .int .u64 b1, .int .u64 b2, .int .u64 b3]] := by
  obtain ⟨A, hA, eA, lA⟩ := mod_nat ha
  obtain ⟨Y, hY, eY, lY⟩ := mod_nat hb
  have h256 : (256 : Int) % MM = 256 := by unfold MM; omega
  by_cases h : A < 256
  · have hA2 : IsW (A : Int) a0 a1 a2 a3 := ha.cong (mod_lit eA)
    obtain ⟨rfl, rfl, rfl, rfl⟩ := small_limbs _ _ _ _ hA2 (by omega) (by omega)
    obtain ⟨z0, z1, z2, z3, SD, iz⟩ := shiftDown_ex y (A : Int) false b0 b1 b2 b3 hb (by omega) (by omega)
    rw [show ((A : Int)).toNat = A by omega] at iz
    have BL : ∀ w : World, Calls Tryz.prog 100 #[.agg #[.int .u64 (A : Int), .int .u64 0, .int .u64 0, .int .u64 0], .int .u64 256] w fun e w' => e = .returned (.tuple #[.int .u64 (A : Int), .bool true]) ∧ Below w.heap.size w w' := fun w => below_lt (A : Int) 256 _ _ _ _ w hA2 (isW_lit 256 (by omega) (by omega)) (by rw [h256, ← mod_lit eA, ← eA]; omega)
    refine ⟨z0, z1, z2, z3, shr_lt (A : Int) 0 0 0 b0 b1 b2 b3 z0 z1 z2 z3 BL SD, rshr_r _ _ _ _ b0 b1 b2 b3 z0 z1 z2 z3 (fun w => ?_)⟩
    refine rlow_r _ _ _ _ b0 b1 b2 b3 z0 z1 z2 z3 A Y 0 _ (fun W => upTo_is _ _ _ _ _ W hA2 A (by unfold V Bd; omega) 256 (by omega) A (by omega)) (fun W => bits_is y b0 b1 b2 b3 W hb Y hY) (by omega) (fun _ => rfl) (fun W => joined_is _ (fun i => by split; exact bitf_le _ _; omega) W _ _ _ _ (iz.cong ?_)) w
    rw [bsum_shr Y A lY, Int.natCast_ediv, natpow, eY]; simp
  · refine ⟨0, 0, 0, 0, shr_ge a0 a1 a2 a3 b0 b1 b2 b3 (fun w => below_ge x 256 a0 a1 a2 a3 w ha (isW_lit 256 (by omega) (by omega)) (by rw [← eA, h256]; omega)), rshr_r a0 a1 a2 a3 b0 b1 b2 b3 0 0 0 0 (fun w => ?_)⟩
    refine rlow_r a0 a1 a2 a3 b0 b1 b2 b3 0 0 0 0 256 Y 0 (fun i => if i + 256 < 256 then bitf Y (i + 256) else 0) (fun W => upTo_is x a0 a1 a2 a3 W ha A hA 256 (by omega) 256 (by omega)) (fun W => bits_is y b0 b1 b2 b3 W hb Y hY) (by omega) (fun _ => rfl) (fun W => joined_is _ (fun i => by split; exact bitf_le _ _; omega) W _ _ _ _ ?_) w
    rw [bsum_zero 256 (fun i hi => by rw [if_neg (by omega)])]; exact isW_0
theorem pair_clz {x : Int} {a0 a1 a2 a3 : Int} (ha : IsW x a0 a1 a2 a3) : Pair 52 53 #[.agg #[.int .u64 a0, .int .u64 a1, .int .u64 a2, .int .u64 a3]] := by
  obtain ⟨X, hX, eX, lX⟩ := mod_nat ha
  obtain ⟨B, b1, b2, b3⟩ := bits_ex X 256 (by rw [p256]; exact lX)
  obtain ⟨n, en⟩ : ∃ n, n + B = 256 := ⟨256 - B, by omega⟩
  refine ⟨(n : Int), 0, 0, 0, clz_r a0 a1 a2 a3 n (fun w => ?_) (by omega), rclz_r a0 a1 a2 a3 _ _ _ _ n (zeros_r a0 a1 a2 a3 X n (fun W => bits_is x a0 a1 a2 a3 W ha X hX) (by omega) (fun j hj => ?_) (fun hn => ?_)) (small_is n (by omega)) (isW_lit _ (by omega) (by omega))⟩
  · have h := zerosAhead_is ha hX (bitsOf_nat b2 b3) w
    rw [show (256 : Int) - (B : Int) = (n : Int) by omega] at h
    exact h
  · exact bitf_zero (Nat.lt_of_lt_of_le b2 (Nat.pow_le_pow_right (by decide) (by omega)))
  · have h1 := b3 (by omega)
    rw [show 255 - n = B - 1 by omega]
    have e : (2 : Nat) ^ B = 2 ^ (B - 1) * 2 := by rw [← Nat.pow_succ]; congr 1; omega
    unfold bitf
    have h2 : X / 2 ^ (B - 1) = 1 := by
      apply Nat.div_eq_of_lt_le
      · omega
      · rw [e] at b2; omega
    rw [h2]
end Go.Proofs.YtpadpmkfhljiiaaGreat
