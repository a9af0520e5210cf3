/- Shl, Shr, Sar, by what below and the shifts themselves give. -/
import Derived.Test.YtpadpmkfhljiiaaSh
import Derived.Test.YtpadpmkfhljiiaaSg
namespace Go.Proofs.Ytpadpmkfhljiiaa
open Go.RowKit
set_option maxHeartbeats 4000000 in
set_option maxRecDepth 100000 in
theorem shl_ge (n0 n1 n2 n3 a0 a1 a2 a3 : Int) (BL : ∀ w : World, Calls Try.prog 85 #[.agg #[.int .u64 n0, .int .u64 n1, .int .u64 n2, .int .u64 n3], .int .u64 256] w fun e w' => e = .returned (.tuple #[.int .u64 0, .bool false]) ∧ Below w.heap.size w w') (w : World) :
    Calls Try.prog 47 #[.agg #[.int .u64 n0, .int .u64 n1, .int .u64 n2, .int .u64 n3], .agg #[.int .u64 a0, .int .u64 a1, .int .u64 a2, .int .u64 a3]] w fun e w' => e = .returned (.agg #[.int .u64 0, .int .u64 0, .int .u64 0, .int .u64 0]) ∧ Below w.heap.size w w' := by
  have HBL : Hid (∀ w : World, Calls Try.prog 85 #[.agg #[.int .u64 n0, .int .u64 n1, .int .u64 n2, .int .u64 n3], .int .u64 256] w fun e w' => e = .returned (.tuple #[.int .u64 0, .bool false]) ∧ Below w.heap.size w w') := BL
  clear BL
  go_enter Try.func47, Try.ntmps47
  go_upto_region 1 with fail
  have X1 : Hid (Bx w [(w.heap.size + 1 + 1, 0, 0, 0, 0), (w.heap.size + 1, a0, a1, a2, a3), (w.heap.size, n0, n1, n2, n3)] (((w.alloc (.cells #[.int .u64 n0, .int .u64 n1, .int .u64 n2, .int .u64 n3] 24)).alloc (.cells #[.int .u64 a0, .int .u64 a1, .int .u64 a2, .int .u64 a3] 24)).alloc (.cells #[.int .u64 0, .int .u64 0, .int .u64 0, .int .u64 0] 24))) := by
    have h := (((Bx.start w).alloc n0 n1 n2 n3).alloc a0 a1 a2 a3).alloc 0 0 0 0
    (try simp only [World.size_alloc] at h)
    exact h
  generalize (((w.alloc (.cells #[.int .u64 n0, .int .u64 n1, .int .u64 n2, .int .u64 n3] 24)).alloc (.cells #[.int .u64 a0, .int .u64 a1, .int .u64 a2, .int .u64 a3] 24)).alloc (.cells #[.int .u64 0, .int .u64 0, .int .u64 0, .int .u64 0] 24)) = g2 at X1 ⊢
  obtain ⟨k3_2_0, k3_2_1, k3_2_2, k3_2_3, k3_2_4, k3_2_5, k3_2_6, k3_2_7⟩ := X1.out.f0 (List.Mem.tail _ (List.Mem.tail _ (List.Mem.head _)))
  go_upto_region 2 with (first | (go_at_call 85; refine (HBL.out _).mono ?_; rintro e g5 ⟨rfl, hB⟩; (have X4 : Hid (Bx w [(w.heap.size + 1 + 1, 0, 0, 0, 0), (w.heap.size + 1, a0, a1, a2, a3), (w.heap.size, n0, n1, n2, n3)] g5) := X1.out.past hB); clear hB X1 k3_2_0 k3_2_1 k3_2_2 k3_2_3 k3_2_4 k3_2_5 k3_2_6 k3_2_7; obtain ⟨k6_2_0, k6_2_1, k6_2_2, k6_2_3, k6_2_4, k6_2_5, k6_2_6, k6_2_7⟩ := X4.out.f0 (List.Mem.tail _ (List.Mem.tail _ (List.Mem.head _)))))
  clear k6_2_0 k6_2_1 k6_2_2 k6_2_3 k6_2_4 k6_2_5 k6_2_6 k6_2_7
  go_upto_region 3 with fail
  obtain ⟨k8_0_0, k8_0_1, k8_0_2, k8_0_3, k8_0_4, k8_0_5, k8_0_6, k8_0_7⟩ := X4.out.f0 (List.Mem.head _)
  go_wp2
  clear k8_0_0 k8_0_1 k8_0_2 k8_0_3 k8_0_4 k8_0_5 k8_0_6 k8_0_7
  have X9 : Hid (Bx w ((w.heap.size + 1 + 1, 0, 0, 0, 0) :: [(w.heap.size + 1, a0, a1, a2, a3), (w.heap.size, n0, n1, n2, n3)]) ((((g5.setCell ⟨w.heap.size + 1 + 1, 0, none⟩ (.int .u64 0)).setCell ⟨w.heap.size + 1 + 1, 1, none⟩ (.int .u64 0)).setCell ⟨w.heap.size + 1 + 1, 2, none⟩ (.int .u64 0)).setCell ⟨w.heap.size + 1 + 1, 3, none⟩ (.int .u64 0))) := Bx.put (Bx.sub X4.out (l := [(w.heap.size + 1 + 1, 0, 0, 0, 0), (w.heap.size + 1, a0, a1, a2, a3), (w.heap.size, n0, n1, n2, n3)]) (m := [(w.heap.size + 1 + 1, 0, 0, 0, 0), (w.heap.size + 1, a0, a1, a2, a3), (w.heap.size, n0, n1, n2, n3)]) (by intro p hp; simp only [List.mem_cons, List.not_mem_nil, or_false] at hp ⊢; rcases hp with rfl | rfl | rfl <;> simp)) (by intro p hp; simp only [List.mem_cons, List.not_mem_nil, or_false] at hp; rcases hp with rfl | rfl <;> simp <;> omega) 0 0 0 0
  generalize ((((g5.setCell ⟨w.heap.size + 1 + 1, 0, none⟩ (.int .u64 0)).setCell ⟨w.heap.size + 1 + 1, 1, none⟩ (.int .u64 0)).setCell ⟨w.heap.size + 1 + 1, 2, none⟩ (.int .u64 0)).setCell ⟨w.heap.size + 1 + 1, 3, none⟩ (.int .u64 0)) = g10 at X9 ⊢
  clear X4
  refine bodyPost_ret (v := .agg #[.int .u64 0, .int .u64 0, .int .u64 0, .int .u64 0]) ?_ rfl ⟨rfl, X9.out.bel⟩
  exact results_c Try.results47 _ _ _ ⟨w.heap.size + 1 + 1, 0, none⟩ rfl (loadVar4 (X9.out.box _ (List.Mem.head _)))
set_option maxHeartbeats 4000000 in
set_option maxRecDepth 100000 in
theorem shr_ge (n0 n1 n2 n3 a0 a1 a2 a3 : Int) (BL : ∀ w : World, Calls Try.prog 85 #[.agg #[.int .u64 n0, .int .u64 n1, .int .u64 n2, .int .u64 n3], .int .u64 256] w fun e w' => e = .returned (.tuple #[.int .u64 0, .bool false]) ∧ Below w.heap.size w w') (w : World) :
    Calls Try.prog 48 #[.agg #[.int .u64 n0, .int .u64 n1, .int .u64 n2, .int .u64 n3], .agg #[.int .u64 a0, .int .u64 a1, .int .u64 a2, .int .u64 a3]] w fun e w' => e = .returned (.agg #[.int .u64 0, .int .u64 0, .int .u64 0, .int .u64 0]) ∧ Below w.heap.size w w' := by
  have HBL : Hid (∀ w : World, Calls Try.prog 85 #[.agg #[.int .u64 n0, .int .u64 n1, .int .u64 n2, .int .u64 n3], .int .u64 256] w fun e w' => e = .returned (.tuple #[.int .u64 0, .bool false]) ∧ Below w.heap.size w w') := BL
  clear BL
  go_enter Try.func48, Try.ntmps48
  go_upto_region 1 with fail
  have X1 : Hid (Bx w [(w.heap.size + 1 + 1, 0, 0, 0, 0), (w.heap.size + 1, a0, a1, a2, a3), (w.heap.size, n0, n1, n2, n3)] (((w.alloc (.cells #[.int .u64 n0, .int .u64 n1, .int .u64 n2, .int .u64 n3] 24)).alloc (.cells #[.int .u64 a0, .int .u64 a1, .int .u64 a2, .int .u64 a3] 24)).alloc (.cells #[.int .u64 0, .int .u64 0, .int .u64 0, .int .u64 0] 24))) := by
    have h := (((Bx.start w).alloc n0 n1 n2 n3).alloc a0 a1 a2 a3).alloc 0 0 0 0
    (try simp only [World.size_alloc] at h)
    exact h
  generalize (((w.alloc (.cells #[.int .u64 n0, .int .u64 n1, .int .u64 n2, .int .u64 n3] 24)).alloc (.cells #[.int .u64 a0, .int .u64 a1, .int .u64 a2, .int .u64 a3] 24)).alloc (.cells #[.int .u64 0, .int .u64 0, .int .u64 0, .int .u64 0] 24)) = g2 at X1 ⊢
  obtain ⟨k3_2_0, k3_2_1, k3_2_2, k3_2_3, k3_2_4, k3_2_5, k3_2_6, k3_2_7⟩ := X1.out.f0 (List.Mem.tail _ (List.Mem.tail _ (List.Mem.head _)))
  go_upto_region 2 with (first | (go_at_call 85; refine (HBL.out _).mono ?_; rintro e g5 ⟨rfl, hB⟩; (have X4 : Hid (Bx w [(w.heap.size + 1 + 1, 0, 0, 0, 0), (w.heap.size + 1, a0, a1, a2, a3), (w.heap.size, n0, n1, n2, n3)] g5) := X1.out.past hB); clear hB X1 k3_2_0 k3_2_1 k3_2_2 k3_2_3 k3_2_4 k3_2_5 k3_2_6 k3_2_7; obtain ⟨k6_2_0, k6_2_1, k6_2_2, k6_2_3, k6_2_4, k6_2_5, k6_2_6, k6_2_7⟩ := X4.out.f0 (List.Mem.tail _ (List.Mem.tail _ (List.Mem.head _)))))
  clear k6_2_0 k6_2_1 k6_2_2 k6_2_3 k6_2_4 k6_2_5 k6_2_6 k6_2_7
  go_upto_region 3 with fail
  obtain ⟨k8_0_0, k8_0_1, k8_0_2, k8_0_3, k8_0_4, k8_0_5, k8_0_6, k8_0_7⟩ := X4.out.f0 (List.Mem.head _)
  go_wp2
  clear k8_0_0 k8_0_1 k8_0_2 k8_0_3 k8_0_4 k8_0_5 k8_0_6 k8_0_7
  have X9 : Hid (Bx w ((w.heap.size + 1 + 1, 0, 0, 0, 0) :: [(w.heap.size + 1, a0, a1, a2, a3), (w.heap.size, n0, n1, n2, n3)]) ((((g5.setCell ⟨w.heap.size + 1 + 1, 0, none⟩ (.int .u64 0)).setCell ⟨w.heap.size + 1 + 1, 1, none⟩ (.int .u64 0)).setCell ⟨w.heap.size + 1 + 1, 2, none⟩ (.int .u64 0)).setCell ⟨w.heap.size + 1 + 1, 3, none⟩ (.int .u64 0))) := Bx.put (Bx.sub X4.out (l := [(w.heap.size + 1 + 1, 0, 0, 0, 0), (w.heap.size + 1, a0, a1, a2, a3), (w.heap.size, n0, n1, n2, n3)]) (m := [(w.heap.size + 1 + 1, 0, 0, 0, 0), (w.heap.size + 1, a0, a1, a2, a3), (w.heap.size, n0, n1, n2, n3)]) (by intro p hp; simp only [List.mem_cons, List.not_mem_nil, or_false] at hp ⊢; rcases hp with rfl | rfl | rfl <;> simp)) (by intro p hp; simp only [List.mem_cons, List.not_mem_nil, or_false] at hp; rcases hp with rfl | rfl <;> simp <;> omega) 0 0 0 0
  generalize ((((g5.setCell ⟨w.heap.size + 1 + 1, 0, none⟩ (.int .u64 0)).setCell ⟨w.heap.size + 1 + 1, 1, none⟩ (.int .u64 0)).setCell ⟨w.heap.size + 1 + 1, 2, none⟩ (.int .u64 0)).setCell ⟨w.heap.size + 1 + 1, 3, none⟩ (.int .u64 0)) = g10 at X9 ⊢
  clear X4
  refine bodyPost_ret (v := .agg #[.int .u64 0, .int .u64 0, .int .u64 0, .int .u64 0]) ?_ rfl ⟨rfl, X9.out.bel⟩
  exact results_c Try.results48 _ _ _ ⟨w.heap.size + 1 + 1, 0, none⟩ rfl (loadVar4 (X9.out.box _ (List.Mem.head _)))
set_option maxHeartbeats 4000000 in
set_option maxRecDepth 100000 in
theorem shr_lt (n0 n1 n2 n3 a0 a1 a2 a3 z0 z1 z2 z3 : Int) (BL : ∀ w : World, Calls Try.prog 85 #[.agg #[.int .u64 n0, .int .u64 n1, .int .u64 n2, .int .u64 n3], .int .u64 256] w fun e w' => e = .returned (.tuple #[.int .u64 n0, .bool true]) ∧ Below w.heap.size w w') (SD : ∀ w : World, Calls Try.prog 87 #[.agg #[.int .u64 a0, .int .u64 a1, .int .u64 a2, .int .u64 a3], .int .u64 n0, .int .u64 0] w fun e w' => e = .returned (.agg #[.int .u64 z0, .int .u64 z1, .int .u64 z2, .int .u64 z3]) ∧ Below w.heap.size w w') (w : World) :
    Calls Try.prog 48 #[.agg #[.int .u64 n0, .int .u64 n1, .int .u64 n2, .int .u64 n3], .agg #[.int .u64 a0, .int .u64 a1, .int .u64 a2, .int .u64 a3]] w fun e w' => e = .returned (.agg #[.int .u64 z0, .int .u64 z1, .int .u64 z2, .int .u64 z3]) ∧ Below w.heap.size w w' := by
  have HBL : Hid (∀ w : World, Calls Try.prog 85 #[.agg #[.int .u64 n0, .int .u64 n1, .int .u64 n2, .int .u64 n3], .int .u64 256] w fun e w' => e = .returned (.tuple #[.int .u64 n0, .bool true]) ∧ Below w.heap.size w w') := BL
  have HSD : Hid (∀ w : World, Calls Try.prog 87 #[.agg #[.int .u64 a0, .int .u64 a1, .int .u64 a2, .int .u64 a3], .int .u64 n0, .int .u64 0] w fun e w' => e = .returned (.agg #[.int .u64 z0, .int .u64 z1, .int .u64 z2, .int .u64 z3]) ∧ Below w.heap.size w w') := SD
  clear BL SD
  go_enter Try.func48, Try.ntmps48
  go_upto_region 1 with fail
  have X1 : Hid (Bx w [(w.heap.size + 1 + 1, 0, 0, 0, 0), (w.heap.size + 1, a0, a1, a2, a3), (w.heap.size, n0, n1, n2, n3)] (((w.alloc (.cells #[.int .u64 n0, .int .u64 n1, .int .u64 n2, .int .u64 n3] 24)).alloc (.cells #[.int .u64 a0, .int .u64 a1, .int .u64 a2, .int .u64 a3] 24)).alloc (.cells #[.int .u64 0, .int .u64 0, .int .u64 0, .int .u64 0] 24))) := by
    have h := (((Bx.start w).alloc n0 n1 n2 n3).alloc a0 a1 a2 a3).alloc 0 0 0 0
    (try simp only [World.size_alloc] at h)
    exact h
  generalize (((w.alloc (.cells #[.int .u64 n0, .int .u64 n1, .int .u64 n2, .int .u64 n3] 24)).alloc (.cells #[.int .u64 a0, .int .u64 a1, .int .u64 a2, .int .u64 a3] 24)).alloc (.cells #[.int .u64 0, .int .u64 0, .int .u64 0, .int .u64 0] 24)) = g2 at X1 ⊢
  obtain ⟨k3_2_0, k3_2_1, k3_2_2, k3_2_3, k3_2_4, k3_2_5, k3_2_6, k3_2_7⟩ := X1.out.f0 (List.Mem.tail _ (List.Mem.tail _ (List.Mem.head _)))
  go_upto_region 2 with (first | (go_at_call 85; refine (HBL.out _).mono ?_; rintro e g5 ⟨rfl, hB⟩; (have X4 : Hid (Bx w [(w.heap.size + 1 + 1, 0, 0, 0, 0), (w.heap.size + 1, a0, a1, a2, a3), (w.heap.size, n0, n1, n2, n3)] g5) := X1.out.past hB); clear hB X1 k3_2_0 k3_2_1 k3_2_2 k3_2_3 k3_2_4 k3_2_5 k3_2_6 k3_2_7; obtain ⟨k6_2_0, k6_2_1, k6_2_2, k6_2_3, k6_2_4, k6_2_5, k6_2_6, k6_2_7⟩ := X4.out.f0 (List.Mem.tail _ (List.Mem.tail _ (List.Mem.head _)))))
  clear k6_2_0 k6_2_1 k6_2_2 k6_2_3 k6_2_4 k6_2_5 k6_2_6 k6_2_7
  go_upto_region 4 with fail
  obtain ⟨k8_0_0, k8_0_1, k8_0_2, k8_0_3, k8_0_4, k8_0_5, k8_0_6, k8_0_7⟩ := X4.out.f0 (List.Mem.head _)
  obtain ⟨k8_1_0, k8_1_1, k8_1_2, k8_1_3, k8_1_4, k8_1_5, k8_1_6, k8_1_7⟩ := X4.out.f0 (List.Mem.tail _ (List.Mem.head _))
  go_wp2_with (first | (go_at_call 87; refine (HSD.out _).mono ?_; rintro e g10 ⟨rfl, hB⟩; (have X9 : Hid (Bx w [(w.heap.size + 1 + 1, 0, 0, 0, 0), (w.heap.size + 1, a0, a1, a2, a3), (w.heap.size, n0, n1, n2, n3)] g10) := X4.out.past hB); clear hB X4 k8_0_0 k8_0_1 k8_0_2 k8_0_3 k8_0_4 k8_0_5 k8_0_6 k8_0_7 k8_1_0 k8_1_1 k8_1_2 k8_1_3 k8_1_4 k8_1_5 k8_1_6 k8_1_7; obtain ⟨k11_0_0, k11_0_1, k11_0_2, k11_0_3, k11_0_4, k11_0_5, k11_0_6, k11_0_7⟩ := X9.out.f0 (List.Mem.head _); obtain ⟨k11_1_0, k11_1_1, k11_1_2, k11_1_3, k11_1_4, k11_1_5, k11_1_6, k11_1_7⟩ := X9.out.f0 (List.Mem.tail _ (List.Mem.head _))))
  clear k11_0_0 k11_0_1 k11_0_2 k11_0_3 k11_0_4 k11_0_5 k11_0_6 k11_0_7 k11_1_0 k11_1_1 k11_1_2 k11_1_3 k11_1_4 k11_1_5 k11_1_6 k11_1_7
  have X12 : Hid (Bx w ((w.heap.size + 1 + 1, z0, z1, z2, z3) :: [(w.heap.size + 1, a0, a1, a2, a3), (w.heap.size, n0, n1, n2, n3)]) ((((g10.setCell ⟨w.heap.size + 1 + 1, 0, none⟩ (.int .u64 z0)).setCell ⟨w.heap.size + 1 + 1, 1, none⟩ (.int .u64 z1)).setCell ⟨w.heap.size + 1 + 1, 2, none⟩ (.int .u64 z2)).setCell ⟨w.heap.size + 1 + 1, 3, none⟩ (.int .u64 z3))) := Bx.put (Bx.sub X9.out (l := [(w.heap.size + 1 + 1, 0, 0, 0, 0), (w.heap.size + 1, a0, a1, a2, a3), (w.heap.size, n0, n1, n2, n3)]) (m := [(w.heap.size + 1 + 1, 0, 0, 0, 0), (w.heap.size + 1, a0, a1, a2, a3), (w.heap.size, n0, n1, n2, n3)]) (by intro p hp; simp only [List.mem_cons, List.not_mem_nil, or_false] at hp ⊢; rcases hp with rfl | rfl | rfl <;> simp)) (by intro p hp; simp only [List.mem_cons, List.not_mem_nil, or_false] at hp; rcases hp with rfl | rfl <;> simp <;> omega) z0 z1 z2 z3
  generalize ((((g10.setCell ⟨w.heap.size + 1 + 1, 0, none⟩ (.int .u64 z0)).setCell ⟨w.heap.size + 1 + 1, 1, none⟩ (.int .u64 z1)).setCell ⟨w.heap.size + 1 + 1, 2, none⟩ (.int .u64 z2)).setCell ⟨w.heap.size + 1 + 1, 3, none⟩ (.int .u64 z3)) = g13 at X12 ⊢
  clear X9
  refine bodyPost_ret (v := .agg #[.int .u64 z0, .int .u64 z1, .int .u64 z2, .int .u64 z3]) ?_ rfl ⟨rfl, X12.out.bel⟩
  exact results_c Try.results48 _ _ _ ⟨w.heap.size + 1 + 1, 0, none⟩ rfl (loadVar4 (X12.out.box _ (List.Mem.head _)))
set_option maxHeartbeats 4000000 in
set_option maxRecDepth 100000 in
theorem sar_ge (n0 n1 n2 n3 a0 a1 a2 a3 z0 z1 z2 z3 : Int) (f0 : Int) (BL : ∀ w : World, Calls Try.prog 85 #[.agg #[.int .u64 n0, .int .u64 n1, .int .u64 n2, .int .u64 n3], .int .u64 256] w fun e w' => e = .returned (.tuple #[.int .u64 0, .bool false]) ∧ Below w.heap.size w w') (SG : ∀ w : World, Calls Try.prog 88 #[.agg #[.int .u64 a0, .int .u64 a1, .int .u64 a2, .int .u64 a3]] w fun e w' => e = .returned (.int .u64 f0) ∧ Below w.heap.size w w') (SD : ∀ w : World, Calls Try.prog 87 #[.agg #[.int .u64 a0, .int .u64 a1, .int .u64 a2, .int .u64 a3], .int .u64 255, .int .u64 f0] w fun e w' => e = .returned (.agg #[.int .u64 z0, .int .u64 z1, .int .u64 z2, .int .u64 z3]) ∧ Below w.heap.size w w') (w : World) :
    Calls Try.prog 49 #[.agg #[.int .u64 n0, .int .u64 n1, .int .u64 n2, .int .u64 n3], .agg #[.int .u64 a0, .int .u64 a1, .int .u64 a2, .int .u64 a3]] w fun e w' => e = .returned (.agg #[.int .u64 z0, .int .u64 z1, .int .u64 z2, .int .u64 z3]) ∧ Below w.heap.size w w' := by
  have HBL : Hid (∀ w : World, Calls Try.prog 85 #[.agg #[.int .u64 n0, .int .u64 n1, .int .u64 n2, .int .u64 n3], .int .u64 256] w fun e w' => e = .returned (.tuple #[.int .u64 0, .bool false]) ∧ Below w.heap.size w w') := BL
  have HSG : Hid (∀ w : World, Calls Try.prog 88 #[.agg #[.int .u64 a0, .int .u64 a1, .int .u64 a2, .int .u64 a3]] w fun e w' => e = .returned (.int .u64 f0) ∧ Below w.heap.size w w') := SG
  have HSD : Hid (∀ w : World, Calls Try.prog 87 #[.agg #[.int .u64 a0, .int .u64 a1, .int .u64 a2, .int .u64 a3], .int .u64 255, .int .u64 f0] w fun e w' => e = .returned (.agg #[.int .u64 z0, .int .u64 z1, .int .u64 z2, .int .u64 z3]) ∧ Below w.heap.size w w') := SD
  clear BL SG SD
  go_enter Try.func49, Try.ntmps49
  go_upto_region 1 with fail
  have X1 : Hid (Bx w [(w.heap.size + 1 + 1, 0, 0, 0, 0), (w.heap.size + 1, a0, a1, a2, a3), (w.heap.size, n0, n1, n2, n3)] (((w.alloc (.cells #[.int .u64 n0, .int .u64 n1, .int .u64 n2, .int .u64 n3] 24)).alloc (.cells #[.int .u64 a0, .int .u64 a1, .int .u64 a2, .int .u64 a3] 24)).alloc (.cells #[.int .u64 0, .int .u64 0, .int .u64 0, .int .u64 0] 24))) := by
    have h := (((Bx.start w).alloc n0 n1 n2 n3).alloc a0 a1 a2 a3).alloc 0 0 0 0
    (try simp only [World.size_alloc] at h)
    exact h
  generalize (((w.alloc (.cells #[.int .u64 n0, .int .u64 n1, .int .u64 n2, .int .u64 n3] 24)).alloc (.cells #[.int .u64 a0, .int .u64 a1, .int .u64 a2, .int .u64 a3] 24)).alloc (.cells #[.int .u64 0, .int .u64 0, .int .u64 0, .int .u64 0] 24)) = g2 at X1 ⊢
  obtain ⟨k3_2_0, k3_2_1, k3_2_2, k3_2_3, k3_2_4, k3_2_5, k3_2_6, k3_2_7⟩ := X1.out.f0 (List.Mem.tail _ (List.Mem.tail _ (List.Mem.head _)))
  go_upto_region 2 with (first | (go_at_call 85; refine (HBL.out _).mono ?_; rintro e g5 ⟨rfl, hB⟩; (have X4 : Hid (Bx w [(w.heap.size + 1 + 1, 0, 0, 0, 0), (w.heap.size + 1, a0, a1, a2, a3), (w.heap.size, n0, n1, n2, n3)] g5) := X1.out.past hB); clear hB X1 k3_2_0 k3_2_1 k3_2_2 k3_2_3 k3_2_4 k3_2_5 k3_2_6 k3_2_7; obtain ⟨k6_2_0, k6_2_1, k6_2_2, k6_2_3, k6_2_4, k6_2_5, k6_2_6, k6_2_7⟩ := X4.out.f0 (List.Mem.tail _ (List.Mem.tail _ (List.Mem.head _)))))
  clear k6_2_0 k6_2_1 k6_2_2 k6_2_3 k6_2_4 k6_2_5 k6_2_6 k6_2_7
  go_upto_region 3 with fail
  go_upto_region 4 with fail
  refine wp_region_held_drew (S := fun w' => Bx w [(w.heap.size + 1, a0, a1, a2, a3), (w.heap.size, n0, n1, n2, n3)] w') (by kernel_rfl) (Bx.sub X4.out.drew (l := [(w.heap.size + 1 + 1, 0, 0, 0, 0), (w.heap.size + 1, a0, a1, a2, a3), (w.heap.size, n0, n1, n2, n3)]) (m := [(w.heap.size + 1, a0, a1, a2, a3), (w.heap.size, n0, n1, n2, n3)]) (by intro p hp; simp only [List.mem_cons, List.not_mem_nil, or_false] at hp ⊢; rcases hp with rfl | rfl <;> simp)) (fun _ => ?_)
  have hHeld : Bx w [(w.heap.size + 1 + 1, 0, 0, 0, 0), (w.heap.size + 1, a0, a1, a2, a3), (w.heap.size, n0, n1, n2, n3)] g5.drew := (Bx.sub X4.out.drew (l := [(w.heap.size + 1 + 1, 0, 0, 0, 0), (w.heap.size + 1, a0, a1, a2, a3), (w.heap.size, n0, n1, n2, n3)]) (m := [(w.heap.size + 1 + 1, 0, 0, 0, 0), (w.heap.size + 1, a0, a1, a2, a3), (w.heap.size, n0, n1, n2, n3)]) (by intro p hp; simp only [List.mem_cons, List.not_mem_nil, or_false] at hp ⊢; rcases hp with rfl | rfl | rfl <;> simp))
  generalize g5.drew = g9 at hHeld ⊢
  clear X4
  refine wpAnyH_take (i := 0) (v := .agg #[.int .u64 a0, .int .u64 a1, .int .u64 a2, .int .u64 a3]) op0 (by kernel_rfl) (by kernel_rfl) (by kernel_rfl) (fun _ _ _ h => h) (Or.inl ⟨by rfl, fun W hS => ?_⟩) (Bx.sub hHeld (fun p hp => List.Mem.tail _ hp)) ?_
  · obtain ⟨c0, c1, c2, c3, _⟩ := hS.f0 (List.Mem.head _)
    go_simp
  simp only [Act.put, List.setIfInBounds_toArray, List.set_cons_zero, List.set_cons_succ]
  refine wpAnyH_take (i := 1) (v := .int .u64 255) op1 (by kernel_rfl) (by kernel_rfl) (by kernel_rfl) (fun _ _ _ h => h) (Or.inl ⟨by rfl, fun W hS => ?_⟩) (Bx.sub hHeld (fun p hp => List.Mem.tail _ hp)) ?_
  · go_simp
  simp only [Act.put, List.setIfInBounds_toArray, List.set_cons_zero, List.set_cons_succ]
  refine wpAnyH_take (i := 2) (v := .agg #[.int .u64 a0, .int .u64 a1, .int .u64 a2, .int .u64 a3]) op2 (by kernel_rfl) (by kernel_rfl) (by kernel_rfl) (fun _ _ _ h => h) (Or.inl ⟨by rfl, fun W hS => ?_⟩) (Bx.sub hHeld (fun p hp => List.Mem.tail _ hp)) ?_
  · obtain ⟨c0, c1, c2, c3, _⟩ := hS.f0 (List.Mem.head _)
    go_simp
  simp only [Act.put, List.setIfInBounds_toArray, List.set_cons_zero, List.set_cons_succ]
  refine wpAnyH_ready (rs := [3]) (by kernel_rfl) (by simp) ?_
  refine AllReadyH.cons op3 (fun K hK => ?_) AllReadyH.nil
  rw [if_pos (by rfl)]
  go_simp
  refine (HSG.out _).mono ?_
  rintro e g10 ⟨rfl, hB⟩
  have x11 : Bx w [(w.heap.size + 1 + 1, 0, 0, 0, 0), (w.heap.size + 1, a0, a1, a2, a3), (w.heap.size, n0, n1, n2, n3)] g10 := hHeld.past hB
  clear hB hHeld
  (try go_wp2_with fail)
  refine hK.out _ _ (Bx.sub x11 (fun p hp => List.Mem.tail _ hp)) (fun _ => ?_)
  clear hK K
  refine wpAnyH_ready (rs := [4]) (by kernel_rfl) (by simp) ?_
  refine AllReadyH.cons op4 (fun K hK => ?_) AllReadyH.nil
  rw [if_pos (by rfl)]
  go_simp
  refine (HSD.out _).mono ?_
  rintro e g12 ⟨rfl, hB⟩
  have x13 : Bx w [(w.heap.size + 1 + 1, 0, 0, 0, 0), (w.heap.size + 1, a0, a1, a2, a3), (w.heap.size, n0, n1, n2, n3)] g12 := x11.past hB
  clear hB x11
  (try go_wp2_with fail)
  refine hK.out _ _ (Bx.sub x13 (fun p hp => List.Mem.tail _ hp)) (fun _ => ?_)
  clear hK K
  refine wpAnyH_ready (rs := [5]) (by kernel_rfl) (by simp) ?_
  refine AllReadyH.cons op5 (fun K hK => ?_) AllReadyH.nil
  rw [if_pos (by rfl)]
  obtain ⟨c0, c1, c2, c3, f0, f1, f2, f3⟩ := x13.f0 (List.Mem.head _)
  go_simp
  have x15 : Bx w ((w.heap.size + 1 + 1, z0, z1, z2, z3) :: [(w.heap.size + 1, a0, a1, a2, a3), (w.heap.size, n0, n1, n2, n3)]) ((((g12.setCell ⟨w.heap.size + 1 + 1, 0, none⟩ (.int .u64 z0)).setCell ⟨w.heap.size + 1 + 1, 1, none⟩ (.int .u64 z1)).setCell ⟨w.heap.size + 1 + 1, 2, none⟩ (.int .u64 z2)).setCell ⟨w.heap.size + 1 + 1, 3, none⟩ (.int .u64 z3)) := Bx.put x13 (by intro p hp; simp only [List.mem_cons, List.not_mem_nil, or_false] at hp; rcases hp with rfl | rfl <;> simp <;> omega) z0 z1 z2 z3
  refine hK.out _ _ (Bx.sub x15 (fun p hp => List.Mem.tail _ hp)) (fun _ => ?_)
  clear hK K c0 c1 c2 c3 f0 f1 f2 f3 x13
  generalize ((((g12.setCell ⟨w.heap.size + 1 + 1, 0, none⟩ (.int .u64 z0)).setCell ⟨w.heap.size + 1 + 1, 1, none⟩ (.int .u64 z1)).setCell ⟨w.heap.size + 1 + 1, 2, none⟩ (.int .u64 z2)).setCell ⟨w.heap.size + 1 + 1, 3, none⟩ (.int .u64 z3)) = g14 at x15 ⊢
  (try simp only [Act.put])
  refine wpAnyH_done (by kernel_rfl) ?_ _
  have X16 : Hid (Bx w [(w.heap.size + 1 + 1, z0, z1, z2, z3), (w.heap.size + 1, a0, a1, a2, a3), (w.heap.size, n0, n1, n2, n3)] g14) := x15
  clear x15
  go_wp2
  refine bodyPost_ret (v := .agg #[.int .u64 z0, .int .u64 z1, .int .u64 z2, .int .u64 z3]) ?_ rfl ⟨rfl, X16.out.bel⟩
  exact results_c Try.results49 _ _ _ ⟨w.heap.size + 1 + 1, 0, none⟩ rfl (loadVar4 (X16.out.box _ (List.Mem.head _)))
end Go.Proofs.Ytpadpmkfhljiiaa
