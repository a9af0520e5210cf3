/- SDiv and SMod, and the law's own sign and without: by the words that they ask for. -/
import Derived.Test.YtpadpmkfhljiiaaGreatMp8
import Derived.Test.YtpadpmkfhljiiaaGreatMp3
import Derived.Test.YtpadpmkfhljiiaaGreatMp1
import Derived.Test.YtpadpmkfhljiiaaGreatMp2
namespace Go.Proofs.YtpadpmkfhljiiaaGreat
open Go.RowKit
set_option maxHeartbeats 4000000 in
set_option maxRecDepth 100000 in
theorem negate_c (a0 a1 a2 a3 z0 z1 z2 z3 : Int) (SU : ∀ w : World, Calls Tryz.prog 13 #[.agg #[.int .u64 0, .int .u64 0, .int .u64 0, .int .u64 0], .agg #[.int .u64 a0, .int .u64 a1, .int .u64 a2, .int .u64 a3]] w fun e w' => e = .returned (.agg #[.int .u64 z0, .int .u64 z1, .int .u64 z2, .int .u64 z3]) ∧ Below w.heap.size w w') (w : World) :
    Calls Tryz.prog 92 #[.agg #[.int .u64 a0, .int .u64 a1, .int .u64 a2, .int .u64 a3]] w fun e w' => e = .returned (.agg #[.int .u64 z0, .int .u64 z1, .int .u64 z2, .int .u64 z3]) ∧ Below w.heap.size w w' := by
  have HSU : Hid _ := SU
  clear SU
  go_enter Tryz.func92, Tryz.ntmps92
  go_upto_region 1 with fail
  have X1 : Hid (Bx w [(w.heap.size + 1, 0, 0, 0, 0), (w.heap.size, a0, a1, a2, a3)] ((w.alloc (.cells #[.int .u64 a0, .int .u64 a1, .int .u64 a2, .int .u64 a3] 24)).alloc (.cells #[.int .u64 0, .int .u64 0, .int .u64 0, .int .u64 0] 24))) := by
    have h := ((Bx.start w).alloc a0 a1 a2 a3).alloc 0 0 0 0
    (try simp only [World.size_alloc] at h)
    exact h
  generalize ((w.alloc (.cells #[.int .u64 a0, .int .u64 a1, .int .u64 a2, .int .u64 a3] 24)).alloc (.cells #[.int .u64 0, .int .u64 0, .int .u64 0, .int .u64 0] 24)) = g2 at X1 ⊢
  obtain ⟨k3_0_0, k3_0_1, k3_0_2, k3_0_3, k3_0_4, k3_0_5, k3_0_6, k3_0_7⟩ := X1.out.f0 mm0
  obtain ⟨k3_1_0, k3_1_1, k3_1_2, k3_1_3, k3_1_4, k3_1_5, k3_1_6, k3_1_7⟩ := X1.out.f0 mm1
  go_wp2_with (first | (go_at_call 13; refine (HSU.out _).mono ?_; rintro e g5 ⟨rfl, hB⟩; (have X4 : Hid _ := X1.out.past hB); clear hB X1 k3_0_0 k3_0_1 k3_0_2 k3_0_3 k3_0_4 k3_0_5 k3_0_6 k3_0_7 k3_1_0 k3_1_1 k3_1_2 k3_1_3 k3_1_4 k3_1_5 k3_1_6 k3_1_7; obtain ⟨k6_0_0, k6_0_1, k6_0_2, k6_0_3, k6_0_4, k6_0_5, k6_0_6, k6_0_7⟩ := X4.out.f0 mm0; obtain ⟨k6_1_0, k6_1_1, k6_1_2, k6_1_3, k6_1_4, k6_1_5, k6_1_6, k6_1_7⟩ := X4.out.f0 mm1))
  clear k6_0_0 k6_0_1 k6_0_2 k6_0_3 k6_0_4 k6_0_5 k6_0_6 k6_0_7 k6_1_0 k6_1_1 k6_1_2 k6_1_3 k6_1_4 k6_1_5 k6_1_6 k6_1_7
  have X7 : Hid (Bx w ((w.heap.size + 1, z0, z1, z2, z3) :: [(w.heap.size, a0, a1, a2, a3)]) ((((g5.setCell ⟨w.heap.size + 1, 0, none⟩ (.int .u64 z0)).setCell ⟨w.heap.size + 1, 1, none⟩ (.int .u64 z1)).setCell ⟨w.heap.size + 1, 2, none⟩ (.int .u64 z2)).setCell ⟨w.heap.size + 1, 3, none⟩ (.int .u64 z3))) := Bx.put (Bx.sub X4.out (l := [(w.heap.size + 1, 0, 0, 0, 0), (w.heap.size, a0, a1, a2, a3)]) (m := [(w.heap.size + 1, 0, 0, 0, 0), (w.heap.size, a0, a1, a2, a3)]) (by intro p hp; simp only [List.mem_cons, List.not_mem_nil, or_false] at hp ⊢; rcases hp with rfl | rfl <;> simp)) (by intro p hp; simp only [List.mem_cons, List.not_mem_nil, or_false] at hp; rcases hp with rfl <;> simp <;> omega) z0 z1 z2 z3
  generalize ((((g5.setCell ⟨w.heap.size + 1, 0, none⟩ (.int .u64 z0)).setCell ⟨w.heap.size + 1, 1, none⟩ (.int .u64 z1)).setCell ⟨w.heap.size + 1, 2, none⟩ (.int .u64 z2)).setCell ⟨w.heap.size + 1, 3, none⟩ (.int .u64 z3)) = g8 at X7 ⊢
  clear X4
  refine bodyPost_ret (v := .agg #[.int .u64 z0, .int .u64 z1, .int .u64 z2, .int .u64 z3]) ?_ rfl ⟨rfl, X7.out.bel⟩
  exact results_c Tryz.results92 _ _ _ ⟨w.heap.size + 1, 0, none⟩ rfl (loadVar4 (X7.out.box _ mm0))
set_option maxHeartbeats 4000000 in
set_option maxRecDepth 100000 in
theorem magnitude_t (a0 a1 a2 a3 z0 z1 z2 z3 : Int) (NE : ∀ w : World, Calls Tryz.prog 91 #[.agg #[.int .u64 a0, .int .u64 a1, .int .u64 a2, .int .u64 a3]] w fun e w' => e = .returned (.bool true) ∧ Below w.heap.size w w') (NG : ∀ w : World, Calls Tryz.prog 92 #[.agg #[.int .u64 a0, .int .u64 a1, .int .u64 a2, .int .u64 a3]] w fun e w' => e = .returned (.agg #[.int .u64 z0, .int .u64 z1, .int .u64 z2, .int .u64 z3]) ∧ Below w.heap.size w w') (w : World) :
    Calls Tryz.prog 90 #[.agg #[.int .u64 a0, .int .u64 a1, .int .u64 a2, .int .u64 a3]] w fun e w' => e = .returned (.agg #[.int .u64 z0, .int .u64 z1, .int .u64 z2, .int .u64 z3]) ∧ Below w.heap.size w w' := by
  have HNE : Hid _ := NE
  have HNG : Hid _ := NG
  clear NE NG
  go_enter Tryz.func90, Tryz.ntmps90
  go_upto_region 1 with fail
  have X1 : Hid (Bx w [(w.heap.size + 1, 0, 0, 0, 0), (w.heap.size, a0, a1, a2, a3)] ((w.alloc (.cells #[.int .u64 a0, .int .u64 a1, .int .u64 a2, .int .u64 a3] 24)).alloc (.cells #[.int .u64 0, .int .u64 0, .int .u64 0, .int .u64 0] 24))) := by
    have h := ((Bx.start w).alloc a0 a1 a2 a3).alloc 0 0 0 0
    (try simp only [World.size_alloc] at h)
    exact h
  generalize ((w.alloc (.cells #[.int .u64 a0, .int .u64 a1, .int .u64 a2, .int .u64 a3] 24)).alloc (.cells #[.int .u64 0, .int .u64 0, .int .u64 0, .int .u64 0] 24)) = g2 at X1 ⊢
  obtain ⟨k3_1_0, k3_1_1, k3_1_2, k3_1_3, k3_1_4, k3_1_5, k3_1_6, k3_1_7⟩ := X1.out.f0 mm1
  go_upto_region 2 with (first | (go_at_call 91; refine (HNE.out _).mono ?_; rintro e g5 ⟨rfl, hB⟩; (have X4 : Hid _ := X1.out.past hB); clear hB X1 k3_1_0 k3_1_1 k3_1_2 k3_1_3 k3_1_4 k3_1_5 k3_1_6 k3_1_7; obtain ⟨k6_1_0, k6_1_1, k6_1_2, k6_1_3, k6_1_4, k6_1_5, k6_1_6, k6_1_7⟩ := X4.out.f0 mm1))
  clear k6_1_0 k6_1_1 k6_1_2 k6_1_3 k6_1_4 k6_1_5 k6_1_6 k6_1_7
  obtain ⟨k7_0_0, k7_0_1, k7_0_2, k7_0_3, k7_0_4, k7_0_5, k7_0_6, k7_0_7⟩ := X4.out.f0 mm0
  obtain ⟨k7_1_0, k7_1_1, k7_1_2, k7_1_3, k7_1_4, k7_1_5, k7_1_6, k7_1_7⟩ := X4.out.f0 mm1
  go_wp2_with (first | (go_at_call 92; refine (HNG.out _).mono ?_; rintro e g9 ⟨rfl, hB⟩; (have X8 : Hid _ := X4.out.past hB); clear hB X4 k7_0_0 k7_0_1 k7_0_2 k7_0_3 k7_0_4 k7_0_5 k7_0_6 k7_0_7 k7_1_0 k7_1_1 k7_1_2 k7_1_3 k7_1_4 k7_1_5 k7_1_6 k7_1_7; obtain ⟨k10_0_0, k10_0_1, k10_0_2, k10_0_3, k10_0_4, k10_0_5, k10_0_6, k10_0_7⟩ := X8.out.f0 mm0; obtain ⟨k10_1_0, k10_1_1, k10_1_2, k10_1_3, k10_1_4, k10_1_5, k10_1_6, k10_1_7⟩ := X8.out.f0 mm1))
  clear k10_0_0 k10_0_1 k10_0_2 k10_0_3 k10_0_4 k10_0_5 k10_0_6 k10_0_7 k10_1_0 k10_1_1 k10_1_2 k10_1_3 k10_1_4 k10_1_5 k10_1_6 k10_1_7
  have X11 : Hid (Bx w ((w.heap.size + 1, z0, z1, z2, z3) :: [(w.heap.size, a0, a1, a2, a3)]) ((((g9.setCell ⟨w.heap.size + 1, 0, none⟩ (.int .u64 z0)).setCell ⟨w.heap.size + 1, 1, none⟩ (.int .u64 z1)).setCell ⟨w.heap.size + 1, 2, none⟩ (.int .u64 z2)).setCell ⟨w.heap.size + 1, 3, none⟩ (.int .u64 z3))) := Bx.put (Bx.sub X8.out (l := [(w.heap.size + 1, 0, 0, 0, 0), (w.heap.size, a0, a1, a2, a3)]) (m := [(w.heap.size + 1, 0, 0, 0, 0), (w.heap.size, a0, a1, a2, a3)]) (by intro p hp; simp only [List.mem_cons, List.not_mem_nil, or_false] at hp ⊢; rcases hp with rfl | rfl <;> simp)) (by intro p hp; simp only [List.mem_cons, List.not_mem_nil, or_false] at hp; rcases hp with rfl <;> simp <;> omega) z0 z1 z2 z3
  generalize ((((g9.setCell ⟨w.heap.size + 1, 0, none⟩ (.int .u64 z0)).setCell ⟨w.heap.size + 1, 1, none⟩ (.int .u64 z1)).setCell ⟨w.heap.size + 1, 2, none⟩ (.int .u64 z2)).setCell ⟨w.heap.size + 1, 3, none⟩ (.int .u64 z3)) = g12 at X11 ⊢
  clear X8
  refine bodyPost_ret (v := .agg #[.int .u64 z0, .int .u64 z1, .int .u64 z2, .int .u64 z3]) ?_ rfl ⟨rfl, X11.out.bel⟩
  exact results_c Tryz.results90 _ _ _ ⟨w.heap.size + 1, 0, none⟩ rfl (loadVar4 (X11.out.box _ mm0))
set_option maxHeartbeats 4000000 in
set_option maxRecDepth 100000 in
theorem magnitude_f (a0 a1 a2 a3 : Int) (NE : ∀ w : World, Calls Tryz.prog 91 #[.agg #[.int .u64 a0, .int .u64 a1, .int .u64 a2, .int .u64 a3]] w fun e w' => e = .returned (.bool false) ∧ Below w.heap.size w w') (w : World) :
    Calls Tryz.prog 90 #[.agg #[.int .u64 a0, .int .u64 a1, .int .u64 a2, .int .u64 a3]] w fun e w' => e = .returned (.agg #[.int .u64 a0, .int .u64 a1, .int .u64 a2, .int .u64 a3]) ∧ Below w.heap.size w w' := by
  have HNE : Hid _ := NE
  clear NE
  go_enter Tryz.func90, Tryz.ntmps90
  go_upto_region 1 with fail
  have X1 : Hid (Bx w [(w.heap.size + 1, 0, 0, 0, 0), (w.heap.size, a0, a1, a2, a3)] ((w.alloc (.cells #[.int .u64 a0, .int .u64 a1, .int .u64 a2, .int .u64 a3] 24)).alloc (.cells #[.int .u64 0, .int .u64 0, .int .u64 0, .int .u64 0] 24))) := by
    have h := ((Bx.start w).alloc a0 a1 a2 a3).alloc 0 0 0 0
    (try simp only [World.size_alloc] at h)
    exact h
  generalize ((w.alloc (.cells #[.int .u64 a0, .int .u64 a1, .int .u64 a2, .int .u64 a3] 24)).alloc (.cells #[.int .u64 0, .int .u64 0, .int .u64 0, .int .u64 0] 24)) = g2 at X1 ⊢
  obtain ⟨k3_1_0, k3_1_1, k3_1_2, k3_1_3, k3_1_4, k3_1_5, k3_1_6, k3_1_7⟩ := X1.out.f0 mm1
  go_upto_region 3 with (first | (go_at_call 91; refine (HNE.out _).mono ?_; rintro e g5 ⟨rfl, hB⟩; (have X4 : Hid _ := X1.out.past hB); clear hB X1 k3_1_0 k3_1_1 k3_1_2 k3_1_3 k3_1_4 k3_1_5 k3_1_6 k3_1_7; obtain ⟨k6_1_0, k6_1_1, k6_1_2, k6_1_3, k6_1_4, k6_1_5, k6_1_6, k6_1_7⟩ := X4.out.f0 mm1))
  clear k6_1_0 k6_1_1 k6_1_2 k6_1_3 k6_1_4 k6_1_5 k6_1_6 k6_1_7
  obtain ⟨k7_0_0, k7_0_1, k7_0_2, k7_0_3, k7_0_4, k7_0_5, k7_0_6, k7_0_7⟩ := X4.out.f0 mm0
  obtain ⟨k7_1_0, k7_1_1, k7_1_2, k7_1_3, k7_1_4, k7_1_5, k7_1_6, k7_1_7⟩ := X4.out.f0 mm1
  go_wp2
  clear k7_0_0 k7_0_1 k7_0_2 k7_0_3 k7_0_4 k7_0_5 k7_0_6 k7_0_7 k7_1_0 k7_1_1 k7_1_2 k7_1_3 k7_1_4 k7_1_5 k7_1_6 k7_1_7
  have X8 : Hid (Bx w ((w.heap.size + 1, a0, a1, a2, a3) :: [(w.heap.size, a0, a1, a2, a3)]) ((((g5.setCell ⟨w.heap.size + 1, 0, none⟩ (.int .u64 a0)).setCell ⟨w.heap.size + 1, 1, none⟩ (.int .u64 a1)).setCell ⟨w.heap.size + 1, 2, none⟩ (.int .u64 a2)).setCell ⟨w.heap.size + 1, 3, none⟩ (.int .u64 a3))) := Bx.put (Bx.sub X4.out (l := [(w.heap.size + 1, 0, 0, 0, 0), (w.heap.size, a0, a1, a2, a3)]) (m := [(w.heap.size + 1, 0, 0, 0, 0), (w.heap.size, a0, a1, a2, a3)]) (by intro p hp; simp only [List.mem_cons, List.not_mem_nil, or_false] at hp ⊢; rcases hp with rfl | rfl <;> simp)) (by intro p hp; simp only [List.mem_cons, List.not_mem_nil, or_false] at hp; rcases hp with rfl <;> simp <;> omega) a0 a1 a2 a3
  generalize ((((g5.setCell ⟨w.heap.size + 1, 0, none⟩ (.int .u64 a0)).setCell ⟨w.heap.size + 1, 1, none⟩ (.int .u64 a1)).setCell ⟨w.heap.size + 1, 2, none⟩ (.int .u64 a2)).setCell ⟨w.heap.size + 1, 3, none⟩ (.int .u64 a3)) = g9 at X8 ⊢
  clear X4
  refine bodyPost_ret (v := .agg #[.int .u64 a0, .int .u64 a1, .int .u64 a2, .int .u64 a3]) ?_ rfl ⟨rfl, X8.out.bel⟩
  exact results_c Tryz.results90 _ _ _ ⟨w.heap.size + 1, 0, none⟩ rfl (loadVar4 (X8.out.box _ mm0))
set_option maxHeartbeats 4000000 in
set_option maxRecDepth 100000 in
theorem sdiv_00 (a0 a1 a2 a3 b0 b1 b2 b3 u0 u1 u2 u3 v0 v1 v2 v3 q0 q1 q2 q3 : Int) (MA : ∀ w : World, Calls Tryz.prog 90 #[.agg #[.int .u64 a0, .int .u64 a1, .int .u64 a2, .int .u64 a3]] w fun e w' => e = .returned (.agg #[.int .u64 u0, .int .u64 u1, .int .u64 u2, .int .u64 u3]) ∧ Below w.heap.size w w') (MB : ∀ w : World, Calls Tryz.prog 90 #[.agg #[.int .u64 b0, .int .u64 b1, .int .u64 b2, .int .u64 b3]] w fun e w' => e = .returned (.agg #[.int .u64 v0, .int .u64 v1, .int .u64 v2, .int .u64 v3]) ∧ Below w.heap.size w w') (DI : ∀ w : World, Calls Tryz.prog 17 #[.agg #[.int .u64 u0, .int .u64 u1, .int .u64 u2, .int .u64 u3], .agg #[.int .u64 v0, .int .u64 v1, .int .u64 v2, .int .u64 v3]] w fun e w' => e = .returned (.agg #[.int .u64 q0, .int .u64 q1, .int .u64 q2, .int .u64 q3]) ∧ Below w.heap.size w w') (NA : ∀ w : World, Calls Tryz.prog 91 #[.agg #[.int .u64 a0, .int .u64 a1, .int .u64 a2, .int .u64 a3]] w fun e w' => e = .returned (.bool false) ∧ Below w.heap.size w w') (NB : ∀ w : World, Calls Tryz.prog 91 #[.agg #[.int .u64 b0, .int .u64 b1, .int .u64 b2, .int .u64 b3]] w fun e w' => e = .returned (.bool false) ∧ Below w.heap.size w w') (w : World) :
    Calls Tryz.prog 22 #[.agg #[.int .u64 a0, .int .u64 a1, .int .u64 a2, .int .u64 a3], .agg #[.int .u64 b0, .int .u64 b1, .int .u64 b2, .int .u64 b3]] w fun e w' => e = .returned (.agg #[.int .u64 q0, .int .u64 q1, .int .u64 q2, .int .u64 q3]) ∧ Below w.heap.size w w' := by
  have HMA : Hid _ := MA
  have HMB : Hid _ := MB
  have HDI : Hid _ := DI
  have HNA : Hid _ := NA
  have HNB : Hid _ := NB
  clear MA MB DI NA NB
  go_enter Tryz.func22, Tryz.ntmps22
  go_upto_region 1 with fail
  have X1 : Hid (Bx w [(w.heap.size + 1 + 1, 0, 0, 0, 0), (w.heap.size + 1, b0, b1, b2, b3), (w.heap.size, a0, a1, a2, a3)] (((w.alloc (.cells #[.int .u64 a0, .int .u64 a1, .int .u64 a2, .int .u64 a3] 24)).alloc (.cells #[.int .u64 b0, .int .u64 b1, .int .u64 b2, .int .u64 b3] 24)).alloc (.cells #[.int .u64 0, .int .u64 0, .int .u64 0, .int .u64 0] 24))) := by
    have h := (((Bx.start w).alloc a0 a1 a2 a3).alloc b0 b1 b2 b3).alloc 0 0 0 0
    (try simp only [World.size_alloc] at h)
    exact h
  generalize (((w.alloc (.cells #[.int .u64 a0, .int .u64 a1, .int .u64 a2, .int .u64 a3] 24)).alloc (.cells #[.int .u64 b0, .int .u64 b1, .int .u64 b2, .int .u64 b3] 24)).alloc (.cells #[.int .u64 0, .int .u64 0, .int .u64 0, .int .u64 0] 24)) = g2 at X1 ⊢
  go_cut [5] (fun sx wx => ∃ bk3 : Nat, sx = .pointer (some ⟨bk3, 0, none⟩) ∧ w.heap.size + 1 + 1 < bk3 ∧ w.heap.size + 1 < bk3 ∧ w.heap.size < bk3 ∧ Bx w [(bk3, q0, q1, q2, q3), (w.heap.size + 1 + 1, 0, 0, 0, 0), (w.heap.size + 1, b0, b1, b2, b3), (w.heap.size, a0, a1, a2, a3)] wx)
  case first =>
    refine wp_region_held_drew (S := fun w' => Bx w [(w.heap.size + 1 + 1, 0, 0, 0, 0), (w.heap.size + 1, b0, b1, b2, b3), (w.heap.size, a0, a1, a2, a3)] w') (by kernel_rfl) X1.out.drew (fun hHeld => ?_)
    generalize g2.drew = g4 at hHeld ⊢
    refine wpAnyH_take (i := 0) (v := .agg #[.int .u64 a0, .int .u64 a1, .int .u64 a2, .int .u64 a3]) op0 (by kernel_rfl) (by kernel_rfl) (by kernel_rfl) (fun _ _ _ h => h) (Or.inl ⟨by rfl, fun W hS => ?_⟩) hHeld ?_
    · obtain ⟨c0, c1, c2, c3, _⟩ := hS.f0 mm2
      go_simp
    simp only [Act.put, List.setIfInBounds_toArray, List.set_cons_zero, List.set_cons_succ]
    refine wpAnyH_take (i := 2) (v := .agg #[.int .u64 b0, .int .u64 b1, .int .u64 b2, .int .u64 b3]) op2 (by kernel_rfl) (by kernel_rfl) (by kernel_rfl) (fun _ _ _ h => h) (Or.inl ⟨by rfl, fun W hS => ?_⟩) hHeld ?_
    · obtain ⟨c0, c1, c2, c3, _⟩ := hS.f0 mm1
      go_simp
    simp only [Act.put, List.setIfInBounds_toArray, List.set_cons_zero, List.set_cons_succ]
    refine wpAnyH_ready (rs := [1, 5]) (by kernel_rfl) (by simp) ?_
    refine AllReadyH.cons op1 (fun K hK => ?_) (AllReadyH.cons op5 (fun K hK => ?_) AllReadyH.nil)
    · rw [if_pos (by rfl)]
      go_simp
      refine (HMA.out _).mono ?_
      rintro e g6 ⟨rfl, hB⟩
      have x7 := hHeld.past hB
      clear hB hHeld
      (try go_wp2_with fail)
      refine hK.out _ _ x7 (fun _ => ?_)
      clear hK K
      refine wpAnyH_ready (rs := [3, 5]) (by kernel_rfl) (by simp) ?_
      refine AllReadyH.cons op3 (fun K hK => ?_) (AllReadyH.cons op5 (fun K hK => ?_) AllReadyH.nil)
      · rw [if_pos (by rfl)]
        go_simp
        refine (HMB.out _).mono ?_
        rintro e g8 ⟨rfl, hB⟩
        have x9 := x7.past hB
        clear hB x7
        (try go_wp2_with fail)
        refine hK.out _ _ x9 (fun _ => ?_)
        clear hK K
        refine wpAnyH_ready (rs := [4, 5]) (by kernel_rfl) (by simp) ?_
        refine AllReadyH.cons op4 (fun K hK => ?_) (AllReadyH.cons op5 (fun K hK => ?_) AllReadyH.nil)
        · rw [if_pos (by rfl)]
          go_simp
          refine (HDI.out _).mono ?_
          rintro e g10 ⟨rfl, hB⟩
          have x11 := x9.past hB
          clear hB x9
          (try go_wp2_with fail)
          refine hK.out _ _ x11 (fun _ => ?_)
          clear hK K
          refine wpAnyH_ready (rs := [5]) (by kernel_rfl) (by simp) ?_
          refine AllReadyH.cons op5 (fun K hK => ?_) AllReadyH.nil
          rw [if_pos (by rfl)]
          go_simp
          have x13 : Bx w ((g10.heap.size, 0, 0, 0, 0) :: [(w.heap.size + 1 + 1, 0, 0, 0, 0), (w.heap.size + 1, b0, b1, b2, b3), (w.heap.size, a0, a1, a2, a3)]) (g10.alloc (.cells #[.int .u64 0, .int .u64 0, .int .u64 0, .int .u64 0] 24)) := x11.alloc 0 0 0 0
          have lbb5_0 : w.heap.size + 1 + 1 < g10.heap.size := x11.lt _ mm0
          have lbb5_1 : w.heap.size + 1 < g10.heap.size := x11.lt _ mm1
          have lbb5_2 : w.heap.size < g10.heap.size := x11.lt _ mm2
          refine hK.out _ _ (Bx.sub x13 (fun p hp => List.Mem.tail _ hp)) (fun _ => ?_)
          clear hK K x11
          generalize g10.alloc (.cells #[.int .u64 0, .int .u64 0, .int .u64 0, .int .u64 0] 24) = g12 at x13 ⊢
          generalize g10.heap.size = bb5 at x13 lbb5_0 lbb5_1 lbb5_2 ⊢
          refine wpAnyH_ready (rs := [6]) (by kernel_rfl) (by simp) ?_
          refine AllReadyH.cons op6 (fun K hK => ?_) AllReadyH.nil
          rw [if_pos (by rfl)]
          obtain ⟨c0, c1, c2, c3, f0, f1, f2, f3⟩ := x13.f0 mm0
          go_simp
          have x15 : Bx w ((bb5, q0, q1, q2, q3) :: [(w.heap.size + 1 + 1, 0, 0, 0, 0), (w.heap.size + 1, b0, b1, b2, b3), (w.heap.size, a0, a1, a2, a3)]) ((((g12.setCell ⟨bb5, 0, none⟩ (.int .u64 q0)).setCell ⟨bb5, 1, none⟩ (.int .u64 q1)).setCell ⟨bb5, 2, none⟩ (.int .u64 q2)).setCell ⟨bb5, 3, none⟩ (.int .u64 q3)) := Bx.put x13 (by intro p hp; simp only [List.mem_cons, List.not_mem_nil, or_false] at hp; rcases hp with rfl | rfl | rfl <;> simp <;> omega) q0 q1 q2 q3
          refine hK.out _ _ (Bx.sub x15 (fun p hp => List.Mem.tail _ hp)) (fun _ => ?_)
          clear hK K c0 c1 c2 c3 f0 f1 f2 f3 x13
          generalize ((((g12.setCell ⟨bb5, 0, none⟩ (.int .u64 q0)).setCell ⟨bb5, 1, none⟩ (.int .u64 q1)).setCell ⟨bb5, 2, none⟩ (.int .u64 q2)).setCell ⟨bb5, 3, none⟩ (.int .u64 q3)) = g14 at x15 ⊢
          (try simp only [Act.put])
          refine wpAnyH_done (by kernel_rfl) ?_ _
          go_wp2
          go_meet
          case rel => exact ⟨bb5, rfl, lbb5_0, lbb5_1, lbb5_2, x15⟩
        · rw [if_pos (by rfl)]
          go_simp
          have x17 : Bx w ((g8.heap.size, 0, 0, 0, 0) :: [(w.heap.size + 1 + 1, 0, 0, 0, 0), (w.heap.size + 1, b0, b1, b2, b3), (w.heap.size, a0, a1, a2, a3)]) (g8.alloc (.cells #[.int .u64 0, .int .u64 0, .int .u64 0, .int .u64 0] 24)) := x9.alloc 0 0 0 0
          have lbb5_0 : w.heap.size + 1 + 1 < g8.heap.size := x9.lt _ mm0
          have lbb5_1 : w.heap.size + 1 < g8.heap.size := x9.lt _ mm1
          have lbb5_2 : w.heap.size < g8.heap.size := x9.lt _ mm2
          refine hK.out _ _ (Bx.sub x17 (fun p hp => List.Mem.tail _ hp)) (fun _ => ?_)
          clear hK K x9
          generalize g8.alloc (.cells #[.int .u64 0, .int .u64 0, .int .u64 0, .int .u64 0] 24) = g16 at x17 ⊢
          generalize g8.heap.size = bb5 at x17 lbb5_0 lbb5_1 lbb5_2 ⊢
          refine wpAnyH_ready (rs := [4]) (by kernel_rfl) (by simp) ?_
          refine AllReadyH.cons op4 (fun K hK => ?_) AllReadyH.nil
          rw [if_pos (by rfl)]
          go_simp
          refine (HDI.out _).mono ?_
          rintro e g18 ⟨rfl, hB⟩
          have x19 := x17.past hB
          clear hB x17
          (try go_wp2_with fail)
          refine hK.out _ _ (Bx.sub x19 (fun p hp => List.Mem.tail _ hp)) (fun _ => ?_)
          clear hK K
          refine wpAnyH_ready (rs := [6]) (by kernel_rfl) (by simp) ?_
          refine AllReadyH.cons op6 (fun K hK => ?_) AllReadyH.nil
          rw [if_pos (by rfl)]
          obtain ⟨c0, c1, c2, c3, f0, f1, f2, f3⟩ := x19.f0 mm0
          go_simp
          have x21 : Bx w ((bb5, q0, q1, q2, q3) :: [(w.heap.size + 1 + 1, 0, 0, 0, 0), (w.heap.size + 1, b0, b1, b2, b3), (w.heap.size, a0, a1, a2, a3)]) ((((g18.setCell ⟨bb5, 0, none⟩ (.int .u64 q0)).setCell ⟨bb5, 1, none⟩ (.int .u64 q1)).setCell ⟨bb5, 2, none⟩ (.int .u64 q2)).setCell ⟨bb5, 3, none⟩ (.int .u64 q3)) := Bx.put x19 (by intro p hp; simp only [List.mem_cons, List.not_mem_nil, or_false] at hp; rcases hp with rfl | rfl | rfl <;> simp <;> omega) q0 q1 q2 q3
          refine hK.out _ _ (Bx.sub x21 (fun p hp => List.Mem.tail _ hp)) (fun _ => ?_)
          clear hK K c0 c1 c2 c3 f0 f1 f2 f3 x19
          generalize ((((g18.setCell ⟨bb5, 0, none⟩ (.int .u64 q0)).setCell ⟨bb5, 1, none⟩ (.int .u64 q1)).setCell ⟨bb5, 2, none⟩ (.int .u64 q2)).setCell ⟨bb5, 3, none⟩ (.int .u64 q3)) = g20 at x21 ⊢
          (try simp only [Act.put])
          refine wpAnyH_done (by kernel_rfl) ?_ _
          go_wp2
          go_meet
          case rel => exact ⟨bb5, rfl, lbb5_0, lbb5_1, lbb5_2, x21⟩
      · rw [if_pos (by rfl)]
        go_simp
        have x23 : Bx w ((g6.heap.size, 0, 0, 0, 0) :: [(w.heap.size + 1 + 1, 0, 0, 0, 0), (w.heap.size + 1, b0, b1, b2, b3), (w.heap.size, a0, a1, a2, a3)]) (g6.alloc (.cells #[.int .u64 0, .int .u64 0, .int .u64 0, .int .u64 0] 24)) := x7.alloc 0 0 0 0
        have lbb5_0 : w.heap.size + 1 + 1 < g6.heap.size := x7.lt _ mm0
        have lbb5_1 : w.heap.size + 1 < g6.heap.size := x7.lt _ mm1
        have lbb5_2 : w.heap.size < g6.heap.size := x7.lt _ mm2
        refine hK.out _ _ (Bx.sub x23 (fun p hp => List.Mem.tail _ hp)) (fun _ => ?_)
        clear hK K x7
        generalize g6.alloc (.cells #[.int .u64 0, .int .u64 0, .int .u64 0, .int .u64 0] 24) = g22 at x23 ⊢
        generalize g6.heap.size = bb5 at x23 lbb5_0 lbb5_1 lbb5_2 ⊢
        refine wpAnyH_ready (rs := [3]) (by kernel_rfl) (by simp) ?_
        refine AllReadyH.cons op3 (fun K hK => ?_) AllReadyH.nil
        rw [if_pos (by rfl)]
        go_simp
        refine (HMB.out _).mono ?_
        rintro e g24 ⟨rfl, hB⟩
        have x25 := x23.past hB
        clear hB x23
        (try go_wp2_with fail)
        refine hK.out _ _ (Bx.sub x25 (fun p hp => List.Mem.tail _ hp)) (fun _ => ?_)
        clear hK K
        refine wpAnyH_ready (rs := [4]) (by kernel_rfl) (by simp) ?_
        refine AllReadyH.cons op4 (fun K hK => ?_) AllReadyH.nil
        rw [if_pos (by rfl)]
        go_simp
        refine (HDI.out _).mono ?_
        rintro e g26 ⟨rfl, hB⟩
        have x27 := x25.past hB
        clear hB x25
        (try go_wp2_with fail)
        refine hK.out _ _ (Bx.sub x27 (fun p hp => List.Mem.tail _ hp)) (fun _ => ?_)
        clear hK K
        refine wpAnyH_ready (rs := [6]) (by kernel_rfl) (by simp) ?_
        refine AllReadyH.cons op6 (fun K hK => ?_) AllReadyH.nil
        rw [if_pos (by rfl)]
        obtain ⟨c0, c1, c2, c3, f0, f1, f2, f3⟩ := x27.f0 mm0
        go_simp
        have x29 : Bx w ((bb5, q0, q1, q2, q3) :: [(w.heap.size + 1 + 1, 0, 0, 0, 0), (w.heap.size + 1, b0, b1, b2, b3), (w.heap.size, a0, a1, a2, a3)]) ((((g26.setCell ⟨bb5, 0, none⟩ (.int .u64 q0)).setCell ⟨bb5, 1, none⟩ (.int .u64 q1)).setCell ⟨bb5, 2, none⟩ (.int .u64 q2)).setCell ⟨bb5, 3, none⟩ (.int .u64 q3)) := Bx.put x27 (by intro p hp; simp only [List.mem_cons, List.not_mem_nil, or_false] at hp; rcases hp with rfl | rfl | rfl <;> simp <;> omega) q0 q1 q2 q3
        refine hK.out _ _ (Bx.sub x29 (fun p hp => List.Mem.tail _ hp)) (fun _ => ?_)
        clear hK K c0 c1 c2 c3 f0 f1 f2 f3 x27
        generalize ((((g26.setCell ⟨bb5, 0, none⟩ (.int .u64 q0)).setCell ⟨bb5, 1, none⟩ (.int .u64 q1)).setCell ⟨bb5, 2, none⟩ (.int .u64 q2)).setCell ⟨bb5, 3, none⟩ (.int .u64 q3)) = g28 at x29 ⊢
        (try simp only [Act.put])
        refine wpAnyH_done (by kernel_rfl) ?_ _
        go_wp2
        go_meet
        case rel => exact ⟨bb5, rfl, lbb5_0, lbb5_1, lbb5_2, x29⟩
    · rw [if_pos (by rfl)]
      go_simp
      have x31 : Bx w ((g4.heap.size, 0, 0, 0, 0) :: [(w.heap.size + 1 + 1, 0, 0, 0, 0), (w.heap.size + 1, b0, b1, b2, b3), (w.heap.size, a0, a1, a2, a3)]) (g4.alloc (.cells #[.int .u64 0, .int .u64 0, .int .u64 0, .int .u64 0] 24)) := hHeld.alloc 0 0 0 0
      have lbb5_0 : w.heap.size + 1 + 1 < g4.heap.size := hHeld.lt _ mm0
      have lbb5_1 : w.heap.size + 1 < g4.heap.size := hHeld.lt _ mm1
      have lbb5_2 : w.heap.size < g4.heap.size := hHeld.lt _ mm2
      refine hK.out _ _ (Bx.sub x31 (fun p hp => List.Mem.tail _ hp)) (fun _ => ?_)
      clear hK K hHeld
      generalize g4.alloc (.cells #[.int .u64 0, .int .u64 0, .int .u64 0, .int .u64 0] 24) = g30 at x31 ⊢
      generalize g4.heap.size = bb5 at x31 lbb5_0 lbb5_1 lbb5_2 ⊢
      refine wpAnyH_ready (rs := [1]) (by kernel_rfl) (by simp) ?_
      refine AllReadyH.cons op1 (fun K hK => ?_) AllReadyH.nil
      rw [if_pos (by rfl)]
      go_simp
      refine (HMA.out _).mono ?_
      rintro e g32 ⟨rfl, hB⟩
      have x33 := x31.past hB
      clear hB x31
      (try go_wp2_with fail)
      refine hK.out _ _ (Bx.sub x33 (fun p hp => List.Mem.tail _ hp)) (fun _ => ?_)
      clear hK K
      refine wpAnyH_ready (rs := [3]) (by kernel_rfl) (by simp) ?_
      refine AllReadyH.cons op3 (fun K hK => ?_) AllReadyH.nil
      rw [if_pos (by rfl)]
      go_simp
      refine (HMB.out _).mono ?_
      rintro e g34 ⟨rfl, hB⟩
      have x35 := x33.past hB
      clear hB x33
      (try go_wp2_with fail)
      refine hK.out _ _ (Bx.sub x35 (fun p hp => List.Mem.tail _ hp)) (fun _ => ?_)
      clear hK K
      refine wpAnyH_ready (rs := [4]) (by kernel_rfl) (by simp) ?_
      refine AllReadyH.cons op4 (fun K hK => ?_) AllReadyH.nil
      rw [if_pos (by rfl)]
      go_simp
      refine (HDI.out _).mono ?_
      rintro e g36 ⟨rfl, hB⟩
      have x37 := x35.past hB
      clear hB x35
      (try go_wp2_with fail)
      refine hK.out _ _ (Bx.sub x37 (fun p hp => List.Mem.tail _ hp)) (fun _ => ?_)
      clear hK K
      refine wpAnyH_ready (rs := [6]) (by kernel_rfl) (by simp) ?_
      refine AllReadyH.cons op6 (fun K hK => ?_) AllReadyH.nil
      rw [if_pos (by rfl)]
      obtain ⟨c0, c1, c2, c3, f0, f1, f2, f3⟩ := x37.f0 mm0
      go_simp
      have x39 : Bx w ((bb5, q0, q1, q2, q3) :: [(w.heap.size + 1 + 1, 0, 0, 0, 0), (w.heap.size + 1, b0, b1, b2, b3), (w.heap.size, a0, a1, a2, a3)]) ((((g36.setCell ⟨bb5, 0, none⟩ (.int .u64 q0)).setCell ⟨bb5, 1, none⟩ (.int .u64 q1)).setCell ⟨bb5, 2, none⟩ (.int .u64 q2)).setCell ⟨bb5, 3, none⟩ (.int .u64 q3)) := Bx.put x37 (by intro p hp; simp only [List.mem_cons, List.not_mem_nil, or_false] at hp; rcases hp with rfl | rfl | rfl <;> simp <;> omega) q0 q1 q2 q3
      refine hK.out _ _ (Bx.sub x39 (fun p hp => List.Mem.tail _ hp)) (fun _ => ?_)
      clear hK K c0 c1 c2 c3 f0 f1 f2 f3 x37
      generalize ((((g36.setCell ⟨bb5, 0, none⟩ (.int .u64 q0)).setCell ⟨bb5, 1, none⟩ (.int .u64 q1)).setCell ⟨bb5, 2, none⟩ (.int .u64 q2)).setCell ⟨bb5, 3, none⟩ (.int .u64 q3)) = g38 at x39 ⊢
      (try simp only [Act.put])
      refine wpAnyH_done (by kernel_rfl) ?_ _
      go_wp2
      go_meet
      case rel => exact ⟨bb5, rfl, lbb5_0, lbb5_1, lbb5_2, x39⟩
  case rest =>
    obtain ⟨bk3, rfl, lbk3_0, lbk3_1, lbk3_2, hX⟩ := hcut
    have X40 : Hid (Bx w [(bk3, q0, q1, q2, q3), (w.heap.size + 1 + 1, 0, 0, 0, 0), (w.heap.size + 1, b0, b1, b2, b3), (w.heap.size, a0, a1, a2, a3)] wc) := hX
    generalize wc = g41 at hX X40 ⊢
    clear hX X1
    go_upto_region 2 with fail
    refine wp_region_held_drew (S := fun w' => Bx w [(bk3, q0, q1, q2, q3), (w.heap.size + 1 + 1, 0, 0, 0, 0), (w.heap.size + 1, b0, b1, b2, b3), (w.heap.size, a0, a1, a2, a3)] w') (by kernel_rfl) X40.out.drew (fun hHeld => ?_)
    generalize g41.drew = g42 at hHeld ⊢
    clear X40
    refine wpAnyH_take (i := 0) (v := .agg #[.int .u64 a0, .int .u64 a1, .int .u64 a2, .int .u64 a3]) op0 (by kernel_rfl) (by kernel_rfl) (by kernel_rfl) (fun _ _ _ h => h) (Or.inl ⟨by rfl, fun W hS => ?_⟩) hHeld ?_
    · obtain ⟨c0, c1, c2, c3, _⟩ := hS.f0 mm3
      go_simp
    simp only [Act.put, List.setIfInBounds_toArray, List.set_cons_zero, List.set_cons_succ]
    refine wpAnyH_take (i := 2) (v := .agg #[.int .u64 b0, .int .u64 b1, .int .u64 b2, .int .u64 b3]) op2 (by kernel_rfl) (by kernel_rfl) (by kernel_rfl) (fun _ _ _ h => h) (Or.inl ⟨by rfl, fun W hS => ?_⟩) hHeld ?_
    · obtain ⟨c0, c1, c2, c3, _⟩ := hS.f0 mm2
      go_simp
    simp only [Act.put, List.setIfInBounds_toArray, List.set_cons_zero, List.set_cons_succ]
    refine wpAnyH_ready (rs := [1]) (by kernel_rfl) (by simp) ?_
    refine AllReadyH.cons op1 (fun K hK => ?_) AllReadyH.nil
    rw [if_pos (by rfl)]
    go_simp
    refine (HNA.out _).mono ?_
    rintro e g43 ⟨rfl, hB⟩
    have x44 := hHeld.past hB
    clear hB hHeld
    (try go_wp2_with fail)
    refine hK.out _ _ x44 (fun _ => ?_)
    clear hK K
    refine wpAnyH_ready (rs := [3]) (by kernel_rfl) (by simp) ?_
    refine AllReadyH.cons op3 (fun K hK => ?_) AllReadyH.nil
    rw [if_pos (by rfl)]
    go_simp
    refine (HNB.out _).mono ?_
    rintro e g45 ⟨rfl, hB⟩
    have x46 := x44.past hB
    clear hB x44
    (try go_wp2_with fail)
    refine hK.out _ _ x46 (fun _ => ?_)
    clear hK K
    refine wpAnyH_take (i := 4) (v := .bool false) op4 (by kernel_rfl) (by kernel_rfl) (by kernel_rfl) (fun _ _ _ h => h) (Or.inl ⟨by rfl, fun W hS => ?_⟩) x46 ?_
    · go_simp
    simp only [Act.put, List.setIfInBounds_toArray, List.set_cons_zero, List.set_cons_succ]
    refine wpAnyH_done (by kernel_rfl) ?_ _
    have X47 : Hid (Bx w [(bk3, q0, q1, q2, q3), (w.heap.size + 1 + 1, 0, 0, 0, 0), (w.heap.size + 1, b0, b1, b2, b3), (w.heap.size, a0, a1, a2, a3)] g45) := x46
    clear x46
    go_upto_region 4 with fail
    obtain ⟨k48_0_0, k48_0_1, k48_0_2, k48_0_3, k48_0_4, k48_0_5, k48_0_6, k48_0_7⟩ := X47.out.f0 mm0
    obtain ⟨k48_1_0, k48_1_1, k48_1_2, k48_1_3, k48_1_4, k48_1_5, k48_1_6, k48_1_7⟩ := X47.out.f0 mm1
    go_wp2
    clear k48_0_0 k48_0_1 k48_0_2 k48_0_3 k48_0_4 k48_0_5 k48_0_6 k48_0_7 k48_1_0 k48_1_1 k48_1_2 k48_1_3 k48_1_4 k48_1_5 k48_1_6 k48_1_7
    have X49 : Hid (Bx w ((w.heap.size + 1 + 1, q0, q1, q2, q3) :: [(bk3, q0, q1, q2, q3), (w.heap.size + 1, b0, b1, b2, b3), (w.heap.size, a0, a1, a2, a3)]) ((((g45.setCell ⟨w.heap.size + 1 + 1, 0, none⟩ (.int .u64 q0)).setCell ⟨w.heap.size + 1 + 1, 1, none⟩ (.int .u64 q1)).setCell ⟨w.heap.size + 1 + 1, 2, none⟩ (.int .u64 q2)).setCell ⟨w.heap.size + 1 + 1, 3, none⟩ (.int .u64 q3))) := Bx.put (Bx.sub X47.out (l := [(bk3, q0, q1, q2, q3), (w.heap.size + 1 + 1, 0, 0, 0, 0), (w.heap.size + 1, b0, b1, b2, b3), (w.heap.size, a0, a1, a2, a3)]) (m := [(w.heap.size + 1 + 1, 0, 0, 0, 0), (bk3, q0, q1, q2, q3), (w.heap.size + 1, b0, b1, b2, b3), (w.heap.size, a0, a1, a2, a3)]) (by intro p hp; simp only [List.mem_cons, List.not_mem_nil, or_false] at hp ⊢; rcases hp with rfl | rfl | rfl | rfl <;> simp)) (by intro p hp; simp only [List.mem_cons, List.not_mem_nil, or_false] at hp; rcases hp with rfl | rfl | rfl <;> simp <;> omega) q0 q1 q2 q3
    generalize ((((g45.setCell ⟨w.heap.size + 1 + 1, 0, none⟩ (.int .u64 q0)).setCell ⟨w.heap.size + 1 + 1, 1, none⟩ (.int .u64 q1)).setCell ⟨w.heap.size + 1 + 1, 2, none⟩ (.int .u64 q2)).setCell ⟨w.heap.size + 1 + 1, 3, none⟩ (.int .u64 q3)) = g50 at X49 ⊢
    clear X47
    refine bodyPost_ret (v := .agg #[.int .u64 q0, .int .u64 q1, .int .u64 q2, .int .u64 q3]) ?_ rfl ⟨rfl, X49.out.bel⟩
    exact results_c Tryz.results22 _ _ _ ⟨w.heap.size + 1 + 1, 0, none⟩ rfl (loadVar4 (X49.out.box _ mm0))
set_option maxHeartbeats 4000000 in
set_option maxRecDepth 100000 in
theorem sdiv_01 (a0 a1 a2 a3 b0 b1 b2 b3 u0 u1 u2 u3 v0 v1 v2 v3 q0 q1 q2 q3 z0 z1 z2 z3 : Int) (MA : ∀ w : World, Calls Tryz.prog 90 #[.agg #[.int .u64 a0, .int .u64 a1, .int .u64 a2, .int .u64 a3]] w fun e w' => e = .returned (.agg #[.int .u64 u0, .int .u64 u1, .int .u64 u2, .int .u64 u3]) ∧ Below w.heap.size w w') (MB : ∀ w : World, Calls Tryz.prog 90 #[.agg #[.int .u64 b0, .int .u64 b1, .int .u64 b2, .int .u64 b3]] w fun e w' => e = .returned (.agg #[.int .u64 v0, .int .u64 v1, .int .u64 v2, .int .u64 v3]) ∧ Below w.heap.size w w') (DI : ∀ w : World, Calls Tryz.prog 17 #[.agg #[.int .u64 u0, .int .u64 u1, .int .u64 u2, .int .u64 u3], .agg #[.int .u64 v0, .int .u64 v1, .int .u64 v2, .int .u64 v3]] w fun e w' => e = .returned (.agg #[.int .u64 q0, .int .u64 q1, .int .u64 q2, .int .u64 q3]) ∧ Below w.heap.size w w') (NA : ∀ w : World, Calls Tryz.prog 91 #[.agg #[.int .u64 a0, .int .u64 a1, .int .u64 a2, .int .u64 a3]] w fun e w' => e = .returned (.bool false) ∧ Below w.heap.size w w') (NB : ∀ w : World, Calls Tryz.prog 91 #[.agg #[.int .u64 b0, .int .u64 b1, .int .u64 b2, .int .u64 b3]] w fun e w' => e = .returned (.bool true) ∧ Below w.heap.size w w') (NG : ∀ w : World, Calls Tryz.prog 92 #[.agg #[.int .u64 q0, .int .u64 q1, .int .u64 q2, .int .u64 q3]] w fun e w' => e = .returned (.agg #[.int .u64 z0, .int .u64 z1, .int .u64 z2, .int .u64 z3]) ∧ Below w.heap.size w w') (w : World) :
    Calls Tryz.prog 22 #[.agg #[.int .u64 a0, .int .u64 a1, .int .u64 a2, .int .u64 a3], .agg #[.int .u64 b0, .int .u64 b1, .int .u64 b2, .int .u64 b3]] w fun e w' => e = .returned (.agg #[.int .u64 z0, .int .u64 z1, .int .u64 z2, .int .u64 z3]) ∧ Below w.heap.size w w' := by
  have HMA : Hid _ := MA
  have HMB : Hid _ := MB
  have HDI : Hid _ := DI
  have HNA : Hid _ := NA
  have HNB : Hid _ := NB
  have HNG : Hid _ := NG
  clear MA MB DI NA NB NG
  go_enter Tryz.func22, Tryz.ntmps22
  go_upto_region 1 with fail
  have X1 : Hid (Bx w [(w.heap.size + 1 + 1, 0, 0, 0, 0), (w.heap.size + 1, b0, b1, b2, b3), (w.heap.size, a0, a1, a2, a3)] (((w.alloc (.cells #[.int .u64 a0, .int .u64 a1, .int .u64 a2, .int .u64 a3] 24)).alloc (.cells #[.int .u64 b0, .int .u64 b1, .int .u64 b2, .int .u64 b3] 24)).alloc (.cells #[.int .u64 0, .int .u64 0, .int .u64 0, .int .u64 0] 24))) := by
    have h := (((Bx.start w).alloc a0 a1 a2 a3).alloc b0 b1 b2 b3).alloc 0 0 0 0
    (try simp only [World.size_alloc] at h)
    exact h
  generalize (((w.alloc (.cells #[.int .u64 a0, .int .u64 a1, .int .u64 a2, .int .u64 a3] 24)).alloc (.cells #[.int .u64 b0, .int .u64 b1, .int .u64 b2, .int .u64 b3] 24)).alloc (.cells #[.int .u64 0, .int .u64 0, .int .u64 0, .int .u64 0] 24)) = g2 at X1 ⊢
  go_cut [5] (fun sx wx => ∃ bk3 : Nat, sx = .pointer (some ⟨bk3, 0, none⟩) ∧ w.heap.size + 1 + 1 < bk3 ∧ w.heap.size + 1 < bk3 ∧ w.heap.size < bk3 ∧ Bx w [(bk3, q0, q1, q2, q3), (w.heap.size + 1 + 1, 0, 0, 0, 0), (w.heap.size + 1, b0, b1, b2, b3), (w.heap.size, a0, a1, a2, a3)] wx)
  case first =>
    refine wp_region_held_drew (S := fun w' => Bx w [(w.heap.size + 1 + 1, 0, 0, 0, 0), (w.heap.size + 1, b0, b1, b2, b3), (w.heap.size, a0, a1, a2, a3)] w') (by kernel_rfl) X1.out.drew (fun hHeld => ?_)
    generalize g2.drew = g4 at hHeld ⊢
    refine wpAnyH_take (i := 0) (v := .agg #[.int .u64 a0, .int .u64 a1, .int .u64 a2, .int .u64 a3]) op0 (by kernel_rfl) (by kernel_rfl) (by kernel_rfl) (fun _ _ _ h => h) (Or.inl ⟨by rfl, fun W hS => ?_⟩) hHeld ?_
    · obtain ⟨c0, c1, c2, c3, _⟩ := hS.f0 mm2
      go_simp
    simp only [Act.put, List.setIfInBounds_toArray, List.set_cons_zero, List.set_cons_succ]
    refine wpAnyH_take (i := 2) (v := .agg #[.int .u64 b0, .int .u64 b1, .int .u64 b2, .int .u64 b3]) op2 (by kernel_rfl) (by kernel_rfl) (by kernel_rfl) (fun _ _ _ h => h) (Or.inl ⟨by rfl, fun W hS => ?_⟩) hHeld ?_
    · obtain ⟨c0, c1, c2, c3, _⟩ := hS.f0 mm1
      go_simp
    simp only [Act.put, List.setIfInBounds_toArray, List.set_cons_zero, List.set_cons_succ]
    refine wpAnyH_ready (rs := [1, 5]) (by kernel_rfl) (by simp) ?_
    refine AllReadyH.cons op1 (fun K hK => ?_) (AllReadyH.cons op5 (fun K hK => ?_) AllReadyH.nil)
    · rw [if_pos (by rfl)]
      go_simp
      refine (HMA.out _).mono ?_
      rintro e g6 ⟨rfl, hB⟩
      have x7 := hHeld.past hB
      clear hB hHeld
      (try go_wp2_with fail)
      refine hK.out _ _ x7 (fun _ => ?_)
      clear hK K
      refine wpAnyH_ready (rs := [3, 5]) (by kernel_rfl) (by simp) ?_
      refine AllReadyH.cons op3 (fun K hK => ?_) (AllReadyH.cons op5 (fun K hK => ?_) AllReadyH.nil)
      · rw [if_pos (by rfl)]
        go_simp
        refine (HMB.out _).mono ?_
        rintro e g8 ⟨rfl, hB⟩
        have x9 := x7.past hB
        clear hB x7
        (try go_wp2_with fail)
        refine hK.out _ _ x9 (fun _ => ?_)
        clear hK K
        refine wpAnyH_ready (rs := [4, 5]) (by kernel_rfl) (by simp) ?_
        refine AllReadyH.cons op4 (fun K hK => ?_) (AllReadyH.cons op5 (fun K hK => ?_) AllReadyH.nil)
        · rw [if_pos (by rfl)]
          go_simp
          refine (HDI.out _).mono ?_
          rintro e g10 ⟨rfl, hB⟩
          have x11 := x9.past hB
          clear hB x9
          (try go_wp2_with fail)
          refine hK.out _ _ x11 (fun _ => ?_)
          clear hK K
          refine wpAnyH_ready (rs := [5]) (by kernel_rfl) (by simp) ?_
          refine AllReadyH.cons op5 (fun K hK => ?_) AllReadyH.nil
          rw [if_pos (by rfl)]
          go_simp
          have x13 : Bx w ((g10.heap.size, 0, 0, 0, 0) :: [(w.heap.size + 1 + 1, 0, 0, 0, 0), (w.heap.size + 1, b0, b1, b2, b3), (w.heap.size, a0, a1, a2, a3)]) (g10.alloc (.cells #[.int .u64 0, .int .u64 0, .int .u64 0, .int .u64 0] 24)) := x11.alloc 0 0 0 0
          have lbb5_0 : w.heap.size + 1 + 1 < g10.heap.size := x11.lt _ mm0
          have lbb5_1 : w.heap.size + 1 < g10.heap.size := x11.lt _ mm1
          have lbb5_2 : w.heap.size < g10.heap.size := x11.lt _ mm2
          refine hK.out _ _ (Bx.sub x13 (fun p hp => List.Mem.tail _ hp)) (fun _ => ?_)
          clear hK K x11
          generalize g10.alloc (.cells #[.int .u64 0, .int .u64 0, .int .u64 0, .int .u64 0] 24) = g12 at x13 ⊢
          generalize g10.heap.size = bb5 at x13 lbb5_0 lbb5_1 lbb5_2 ⊢
          refine wpAnyH_ready (rs := [6]) (by kernel_rfl) (by simp) ?_
          refine AllReadyH.cons op6 (fun K hK => ?_) AllReadyH.nil
          rw [if_pos (by rfl)]
          obtain ⟨c0, c1, c2, c3, f0, f1, f2, f3⟩ := x13.f0 mm0
          go_simp
          have x15 : Bx w ((bb5, q0, q1, q2, q3) :: [(w.heap.size + 1 + 1, 0, 0, 0, 0), (w.heap.size + 1, b0, b1, b2, b3), (w.heap.size, a0, a1, a2, a3)]) ((((g12.setCell ⟨bb5, 0, none⟩ (.int .u64 q0)).setCell ⟨bb5, 1, none⟩ (.int .u64 q1)).setCell ⟨bb5, 2, none⟩ (.int .u64 q2)).setCell ⟨bb5, 3, none⟩ (.int .u64 q3)) := Bx.put x13 (by intro p hp; simp only [List.mem_cons, List.not_mem_nil, or_false] at hp; rcases hp with rfl | rfl | rfl <;> simp <;> omega) q0 q1 q2 q3
          refine hK.out _ _ (Bx.sub x15 (fun p hp => List.Mem.tail _ hp)) (fun _ => ?_)
          clear hK K c0 c1 c2 c3 f0 f1 f2 f3 x13
          generalize ((((g12.setCell ⟨bb5, 0, none⟩ (.int .u64 q0)).setCell ⟨bb5, 1, none⟩ (.int .u64 q1)).setCell ⟨bb5, 2, none⟩ (.int .u64 q2)).setCell ⟨bb5, 3, none⟩ (.int .u64 q3)) = g14 at x15 ⊢
          (try simp only [Act.put])
          refine wpAnyH_done (by kernel_rfl) ?_ _
          go_wp2
          go_meet
          case rel => exact ⟨bb5, rfl, lbb5_0, lbb5_1, lbb5_2, x15⟩
        · rw [if_pos (by rfl)]
          go_simp
          have x17 : Bx w ((g8.heap.size, 0, 0, 0, 0) :: [(w.heap.size + 1 + 1, 0, 0, 0, 0), (w.heap.size + 1, b0, b1, b2, b3), (w.heap.size, a0, a1, a2, a3)]) (g8.alloc (.cells #[.int .u64 0, .int .u64 0, .int .u64 0, .int .u64 0] 24)) := x9.alloc 0 0 0 0
          have lbb5_0 : w.heap.size + 1 + 1 < g8.heap.size := x9.lt _ mm0
          have lbb5_1 : w.heap.size + 1 < g8.heap.size := x9.lt _ mm1
          have lbb5_2 : w.heap.size < g8.heap.size := x9.lt _ mm2
          refine hK.out _ _ (Bx.sub x17 (fun p hp => List.Mem.tail _ hp)) (fun _ => ?_)
          clear hK K x9
          generalize g8.alloc (.cells #[.int .u64 0, .int .u64 0, .int .u64 0, .int .u64 0] 24) = g16 at x17 ⊢
          generalize g8.heap.size = bb5 at x17 lbb5_0 lbb5_1 lbb5_2 ⊢
          refine wpAnyH_ready (rs := [4]) (by kernel_rfl) (by simp) ?_
          refine AllReadyH.cons op4 (fun K hK => ?_) AllReadyH.nil
          rw [if_pos (by rfl)]
          go_simp
          refine (HDI.out _).mono ?_
          rintro e g18 ⟨rfl, hB⟩
          have x19 := x17.past hB
          clear hB x17
          (try go_wp2_with fail)
          refine hK.out _ _ (Bx.sub x19 (fun p hp => List.Mem.tail _ hp)) (fun _ => ?_)
          clear hK K
          refine wpAnyH_ready (rs := [6]) (by kernel_rfl) (by simp) ?_
          refine AllReadyH.cons op6 (fun K hK => ?_) AllReadyH.nil
          rw [if_pos (by rfl)]
          obtain ⟨c0, c1, c2, c3, f0, f1, f2, f3⟩ := x19.f0 mm0
          go_simp
          have x21 : Bx w ((bb5, q0, q1, q2, q3) :: [(w.heap.size + 1 + 1, 0, 0, 0, 0), (w.heap.size + 1, b0, b1, b2, b3), (w.heap.size, a0, a1, a2, a3)]) ((((g18.setCell ⟨bb5, 0, none⟩ (.int .u64 q0)).setCell ⟨bb5, 1, none⟩ (.int .u64 q1)).setCell ⟨bb5, 2, none⟩ (.int .u64 q2)).setCell ⟨bb5, 3, none⟩ (.int .u64 q3)) := Bx.put x19 (by intro p hp; simp only [List.mem_cons, List.not_mem_nil, or_false] at hp; rcases hp with rfl | rfl | rfl <;> simp <;> omega) q0 q1 q2 q3
          refine hK.out _ _ (Bx.sub x21 (fun p hp => List.Mem.tail _ hp)) (fun _ => ?_)
          clear hK K c0 c1 c2 c3 f0 f1 f2 f3 x19
          generalize ((((g18.setCell ⟨bb5, 0, none⟩ (.int .u64 q0)).setCell ⟨bb5, 1, none⟩ (.int .u64 q1)).setCell ⟨bb5, 2, none⟩ (.int .u64 q2)).setCell ⟨bb5, 3, none⟩ (.int .u64 q3)) = g20 at x21 ⊢
          (try simp only [Act.put])
          refine wpAnyH_done (by kernel_rfl) ?_ _
          go_wp2
          go_meet
          case rel => exact ⟨bb5, rfl, lbb5_0, lbb5_1, lbb5_2, x21⟩
      · rw [if_pos (by rfl)]
        go_simp
        have x23 : Bx w ((g6.heap.size, 0, 0, 0, 0) :: [(w.heap.size + 1 + 1, 0, 0, 0, 0), (w.heap.size + 1, b0, b1, b2, b3), (w.heap.size, a0, a1, a2, a3)]) (g6.alloc (.cells #[.int .u64 0, .int .u64 0, .int .u64 0, .int .u64 0] 24)) := x7.alloc 0 0 0 0
        have lbb5_0 : w.heap.size + 1 + 1 < g6.heap.size := x7.lt _ mm0
        have lbb5_1 : w.heap.size + 1 < g6.heap.size := x7.lt _ mm1
        have lbb5_2 : w.heap.size < g6.heap.size := x7.lt _ mm2
        refine hK.out _ _ (Bx.sub x23 (fun p hp => List.Mem.tail _ hp)) (fun _ => ?_)
        clear hK K x7
        generalize g6.alloc (.cells #[.int .u64 0, .int .u64 0, .int .u64 0, .int .u64 0] 24) = g22 at x23 ⊢
        generalize g6.heap.size = bb5 at x23 lbb5_0 lbb5_1 lbb5_2 ⊢
        refine wpAnyH_ready (rs := [3]) (by kernel_rfl) (by simp) ?_
        refine AllReadyH.cons op3 (fun K hK => ?_) AllReadyH.nil
        rw [if_pos (by rfl)]
        go_simp
        refine (HMB.out _).mono ?_
        rintro e g24 ⟨rfl, hB⟩
        have x25 := x23.past hB
        clear hB x23
        (try go_wp2_with fail)
        refine hK.out _ _ (Bx.sub x25 (fun p hp => List.Mem.tail _ hp)) (fun _ => ?_)
        clear hK K
        refine wpAnyH_ready (rs := [4]) (by kernel_rfl) (by simp) ?_
        refine AllReadyH.cons op4 (fun K hK => ?_) AllReadyH.nil
        rw [if_pos (by rfl)]
        go_simp
        refine (HDI.out _).mono ?_
        rintro e g26 ⟨rfl, hB⟩
        have x27 := x25.past hB
        clear hB x25
        (try go_wp2_with fail)
        refine hK.out _ _ (Bx.sub x27 (fun p hp => List.Mem.tail _ hp)) (fun _ => ?_)
        clear hK K
        refine wpAnyH_ready (rs := [6]) (by kernel_rfl) (by simp) ?_
        refine AllReadyH.cons op6 (fun K hK => ?_) AllReadyH.nil
        rw [if_pos (by rfl)]
        obtain ⟨c0, c1, c2, c3, f0, f1, f2, f3⟩ := x27.f0 mm0
        go_simp
        have x29 : Bx w ((bb5, q0, q1, q2, q3) :: [(w.heap.size + 1 + 1, 0, 0, 0, 0), (w.heap.size + 1, b0, b1, b2, b3), (w.heap.size, a0, a1, a2, a3)]) ((((g26.setCell ⟨bb5, 0, none⟩ (.int .u64 q0)).setCell ⟨bb5, 1, none⟩ (.int .u64 q1)).setCell ⟨bb5, 2, none⟩ (.int .u64 q2)).setCell ⟨bb5, 3, none⟩ (.int .u64 q3)) := Bx.put x27 (by intro p hp; simp only [List.mem_cons, List.not_mem_nil, or_false] at hp; rcases hp with rfl | rfl | rfl <;> simp <;> omega) q0 q1 q2 q3
        refine hK.out _ _ (Bx.sub x29 (fun p hp => List.Mem.tail _ hp)) (fun _ => ?_)
        clear hK K c0 c1 c2 c3 f0 f1 f2 f3 x27
        generalize ((((g26.setCell ⟨bb5, 0, none⟩ (.int .u64 q0)).setCell ⟨bb5, 1, none⟩ (.int .u64 q1)).setCell ⟨bb5, 2, none⟩ (.int .u64 q2)).setCell ⟨bb5, 3, none⟩ (.int .u64 q3)) = g28 at x29 ⊢
        (try simp only [Act.put])
        refine wpAnyH_done (by kernel_rfl) ?_ _
        go_wp2
        go_meet
        case rel => exact ⟨bb5, rfl, lbb5_0, lbb5_1, lbb5_2, x29⟩
    · rw [if_pos (by rfl)]
      go_simp
      have x31 : Bx w ((g4.heap.size, 0, 0, 0, 0) :: [(w.heap.size + 1 + 1, 0, 0, 0, 0), (w.heap.size + 1, b0, b1, b2, b3), (w.heap.size, a0, a1, a2, a3)]) (g4.alloc (.cells #[.int .u64 0, .int .u64 0, .int .u64 0, .int .u64 0] 24)) := hHeld.alloc 0 0 0 0
      have lbb5_0 : w.heap.size + 1 + 1 < g4.heap.size := hHeld.lt _ mm0
      have lbb5_1 : w.heap.size + 1 < g4.heap.size := hHeld.lt _ mm1
      have lbb5_2 : w.heap.size < g4.heap.size := hHeld.lt _ mm2
      refine hK.out _ _ (Bx.sub x31 (fun p hp => List.Mem.tail _ hp)) (fun _ => ?_)
      clear hK K hHeld
      generalize g4.alloc (.cells #[.int .u64 0, .int .u64 0, .int .u64 0, .int .u64 0] 24) = g30 at x31 ⊢
      generalize g4.heap.size = bb5 at x31 lbb5_0 lbb5_1 lbb5_2 ⊢
      refine wpAnyH_ready (rs := [1]) (by kernel_rfl) (by simp) ?_
      refine AllReadyH.cons op1 (fun K hK => ?_) AllReadyH.nil
      rw [if_pos (by rfl)]
      go_simp
      refine (HMA.out _).mono ?_
      rintro e g32 ⟨rfl, hB⟩
      have x33 := x31.past hB
      clear hB x31
      (try go_wp2_with fail)
      refine hK.out _ _ (Bx.sub x33 (fun p hp => List.Mem.tail _ hp)) (fun _ => ?_)
      clear hK K
      refine wpAnyH_ready (rs := [3]) (by kernel_rfl) (by simp) ?_
      refine AllReadyH.cons op3 (fun K hK => ?_) AllReadyH.nil
      rw [if_pos (by rfl)]
      go_simp
      refine (HMB.out _).mono ?_
      rintro e g34 ⟨rfl, hB⟩
      have x35 := x33.past hB
      clear hB x33
      (try go_wp2_with fail)
      refine hK.out _ _ (Bx.sub x35 (fun p hp => List.Mem.tail _ hp)) (fun _ => ?_)
      clear hK K
      refine wpAnyH_ready (rs := [4]) (by kernel_rfl) (by simp) ?_
      refine AllReadyH.cons op4 (fun K hK => ?_) AllReadyH.nil
      rw [if_pos (by rfl)]
      go_simp
      refine (HDI.out _).mono ?_
      rintro e g36 ⟨rfl, hB⟩
      have x37 := x35.past hB
      clear hB x35
      (try go_wp2_with fail)
      refine hK.out _ _ (Bx.sub x37 (fun p hp => List.Mem.tail _ hp)) (fun _ => ?_)
      clear hK K
      refine wpAnyH_ready (rs := [6]) (by kernel_rfl) (by simp) ?_
      refine AllReadyH.cons op6 (fun K hK => ?_) AllReadyH.nil
      rw [if_pos (by rfl)]
      obtain ⟨c0, c1, c2, c3, f0, f1, f2, f3⟩ := x37.f0 mm0
      go_simp
      have x39 : Bx w ((bb5, q0, q1, q2, q3) :: [(w.heap.size + 1 + 1, 0, 0, 0, 0), (w.heap.size + 1, b0, b1, b2, b3), (w.heap.size, a0, a1, a2, a3)]) ((((g36.setCell ⟨bb5, 0, none⟩ (.int .u64 q0)).setCell ⟨bb5, 1, none⟩ (.int .u64 q1)).setCell ⟨bb5, 2, none⟩ (.int .u64 q2)).setCell ⟨bb5, 3, none⟩ (.int .u64 q3)) := Bx.put x37 (by intro p hp; simp only [List.mem_cons, List.not_mem_nil, or_false] at hp; rcases hp with rfl | rfl | rfl <;> simp <;> omega) q0 q1 q2 q3
      refine hK.out _ _ (Bx.sub x39 (fun p hp => List.Mem.tail _ hp)) (fun _ => ?_)
      clear hK K c0 c1 c2 c3 f0 f1 f2 f3 x37
      generalize ((((g36.setCell ⟨bb5, 0, none⟩ (.int .u64 q0)).setCell ⟨bb5, 1, none⟩ (.int .u64 q1)).setCell ⟨bb5, 2, none⟩ (.int .u64 q2)).setCell ⟨bb5, 3, none⟩ (.int .u64 q3)) = g38 at x39 ⊢
      (try simp only [Act.put])
      refine wpAnyH_done (by kernel_rfl) ?_ _
      go_wp2
      go_meet
      case rel => exact ⟨bb5, rfl, lbb5_0, lbb5_1, lbb5_2, x39⟩
  case rest =>
    obtain ⟨bk3, rfl, lbk3_0, lbk3_1, lbk3_2, hX⟩ := hcut
    have X40 : Hid (Bx w [(bk3, q0, q1, q2, q3), (w.heap.size + 1 + 1, 0, 0, 0, 0), (w.heap.size + 1, b0, b1, b2, b3), (w.heap.size, a0, a1, a2, a3)] wc) := hX
    generalize wc = g41 at hX X40 ⊢
    clear hX X1
    go_upto_region 2 with fail
    refine wp_region_held_drew (S := fun w' => Bx w [(bk3, q0, q1, q2, q3), (w.heap.size + 1 + 1, 0, 0, 0, 0), (w.heap.size + 1, b0, b1, b2, b3), (w.heap.size, a0, a1, a2, a3)] w') (by kernel_rfl) X40.out.drew (fun hHeld => ?_)
    generalize g41.drew = g42 at hHeld ⊢
    clear X40
    refine wpAnyH_take (i := 0) (v := .agg #[.int .u64 a0, .int .u64 a1, .int .u64 a2, .int .u64 a3]) op0 (by kernel_rfl) (by kernel_rfl) (by kernel_rfl) (fun _ _ _ h => h) (Or.inl ⟨by rfl, fun W hS => ?_⟩) hHeld ?_
    · obtain ⟨c0, c1, c2, c3, _⟩ := hS.f0 mm3
      go_simp
    simp only [Act.put, List.setIfInBounds_toArray, List.set_cons_zero, List.set_cons_succ]
    refine wpAnyH_take (i := 2) (v := .agg #[.int .u64 b0, .int .u64 b1, .int .u64 b2, .int .u64 b3]) op2 (by kernel_rfl) (by kernel_rfl) (by kernel_rfl) (fun _ _ _ h => h) (Or.inl ⟨by rfl, fun W hS => ?_⟩) hHeld ?_
    · obtain ⟨c0, c1, c2, c3, _⟩ := hS.f0 mm2
      go_simp
    simp only [Act.put, List.setIfInBounds_toArray, List.set_cons_zero, List.set_cons_succ]
    refine wpAnyH_ready (rs := [1]) (by kernel_rfl) (by simp) ?_
    refine AllReadyH.cons op1 (fun K hK => ?_) AllReadyH.nil
    rw [if_pos (by rfl)]
    go_simp
    refine (HNA.out _).mono ?_
    rintro e g43 ⟨rfl, hB⟩
    have x44 := hHeld.past hB
    clear hB hHeld
    (try go_wp2_with fail)
    refine hK.out _ _ x44 (fun _ => ?_)
    clear hK K
    refine wpAnyH_ready (rs := [3]) (by kernel_rfl) (by simp) ?_
    refine AllReadyH.cons op3 (fun K hK => ?_) AllReadyH.nil
    rw [if_pos (by rfl)]
    go_simp
    refine (HNB.out _).mono ?_
    rintro e g45 ⟨rfl, hB⟩
    have x46 := x44.past hB
    clear hB x44
    (try go_wp2_with fail)
    refine hK.out _ _ x46 (fun _ => ?_)
    clear hK K
    refine wpAnyH_take (i := 4) (v := .bool true) op4 (by kernel_rfl) (by kernel_rfl) (by kernel_rfl) (fun _ _ _ h => h) (Or.inl ⟨by rfl, fun W hS => ?_⟩) x46 ?_
    · go_simp
    simp only [Act.put, List.setIfInBounds_toArray, List.set_cons_zero, List.set_cons_succ]
    refine wpAnyH_done (by kernel_rfl) ?_ _
    have X47 : Hid (Bx w [(bk3, q0, q1, q2, q3), (w.heap.size + 1 + 1, 0, 0, 0, 0), (w.heap.size + 1, b0, b1, b2, b3), (w.heap.size, a0, a1, a2, a3)] g45) := x46
    clear x46
    go_upto_region 3 with fail
    obtain ⟨k48_0_0, k48_0_1, k48_0_2, k48_0_3, k48_0_4, k48_0_5, k48_0_6, k48_0_7⟩ := X47.out.f0 mm0
    obtain ⟨k48_1_0, k48_1_1, k48_1_2, k48_1_3, k48_1_4, k48_1_5, k48_1_6, k48_1_7⟩ := X47.out.f0 mm1
    go_wp2_with (first | (go_at_call 92; refine (HNG.out _).mono ?_; rintro e g50 ⟨rfl, hB⟩; (have X49 : Hid _ := X47.out.past hB); clear hB X47 k48_0_0 k48_0_1 k48_0_2 k48_0_3 k48_0_4 k48_0_5 k48_0_6 k48_0_7 k48_1_0 k48_1_1 k48_1_2 k48_1_3 k48_1_4 k48_1_5 k48_1_6 k48_1_7; obtain ⟨k51_0_0, k51_0_1, k51_0_2, k51_0_3, k51_0_4, k51_0_5, k51_0_6, k51_0_7⟩ := X49.out.f0 mm0; obtain ⟨k51_1_0, k51_1_1, k51_1_2, k51_1_3, k51_1_4, k51_1_5, k51_1_6, k51_1_7⟩ := X49.out.f0 mm1))
    clear k51_0_0 k51_0_1 k51_0_2 k51_0_3 k51_0_4 k51_0_5 k51_0_6 k51_0_7 k51_1_0 k51_1_1 k51_1_2 k51_1_3 k51_1_4 k51_1_5 k51_1_6 k51_1_7
    have X52 : Hid (Bx w ((w.heap.size + 1 + 1, z0, z1, z2, z3) :: [(bk3, q0, q1, q2, q3), (w.heap.size + 1, b0, b1, b2, b3), (w.heap.size, a0, a1, a2, a3)]) ((((g50.setCell ⟨w.heap.size + 1 + 1, 0, none⟩ (.int .u64 z0)).setCell ⟨w.heap.size + 1 + 1, 1, none⟩ (.int .u64 z1)).setCell ⟨w.heap.size + 1 + 1, 2, none⟩ (.int .u64 z2)).setCell ⟨w.heap.size + 1 + 1, 3, none⟩ (.int .u64 z3))) := Bx.put (Bx.sub X49.out (l := [(bk3, q0, q1, q2, q3), (w.heap.size + 1 + 1, 0, 0, 0, 0), (w.heap.size + 1, b0, b1, b2, b3), (w.heap.size, a0, a1, a2, a3)]) (m := [(w.heap.size + 1 + 1, 0, 0, 0, 0), (bk3, q0, q1, q2, q3), (w.heap.size + 1, b0, b1, b2, b3), (w.heap.size, a0, a1, a2, a3)]) (by intro p hp; simp only [List.mem_cons, List.not_mem_nil, or_false] at hp ⊢; rcases hp with rfl | rfl | rfl | rfl <;> simp)) (by intro p hp; simp only [List.mem_cons, List.not_mem_nil, or_false] at hp; rcases hp with rfl | rfl | rfl <;> simp <;> omega) z0 z1 z2 z3
    generalize ((((g50.setCell ⟨w.heap.size + 1 + 1, 0, none⟩ (.int .u64 z0)).setCell ⟨w.heap.size + 1 + 1, 1, none⟩ (.int .u64 z1)).setCell ⟨w.heap.size + 1 + 1, 2, none⟩ (.int .u64 z2)).setCell ⟨w.heap.size + 1 + 1, 3, none⟩ (.int .u64 z3)) = g53 at X52 ⊢
    clear X49
    refine bodyPost_ret (v := .agg #[.int .u64 z0, .int .u64 z1, .int .u64 z2, .int .u64 z3]) ?_ rfl ⟨rfl, X52.out.bel⟩
    exact results_c Tryz.results22 _ _ _ ⟨w.heap.size + 1 + 1, 0, none⟩ rfl (loadVar4 (X52.out.box _ mm0))
set_option maxHeartbeats 4000000 in
set_option maxRecDepth 100000 in
theorem smod_0 (a0 a1 a2 a3 b0 b1 b2 b3 u0 u1 u2 u3 v0 v1 v2 v3 q0 q1 q2 q3 : Int) (MA : ∀ w : World, Calls Tryz.prog 90 #[.agg #[.int .u64 a0, .int .u64 a1, .int .u64 a2, .int .u64 a3]] w fun e w' => e = .returned (.agg #[.int .u64 u0, .int .u64 u1, .int .u64 u2, .int .u64 u3]) ∧ Below w.heap.size w w') (MB : ∀ w : World, Calls Tryz.prog 90 #[.agg #[.int .u64 b0, .int .u64 b1, .int .u64 b2, .int .u64 b3]] w fun e w' => e = .returned (.agg #[.int .u64 v0, .int .u64 v1, .int .u64 v2, .int .u64 v3]) ∧ Below w.heap.size w w') (MO : ∀ w : World, Calls Tryz.prog 19 #[.agg #[.int .u64 u0, .int .u64 u1, .int .u64 u2, .int .u64 u3], .agg #[.int .u64 v0, .int .u64 v1, .int .u64 v2, .int .u64 v3]] w fun e w' => e = .returned (.agg #[.int .u64 q0, .int .u64 q1, .int .u64 q2, .int .u64 q3]) ∧ Below w.heap.size w w') (NA : ∀ w : World, Calls Tryz.prog 91 #[.agg #[.int .u64 a0, .int .u64 a1, .int .u64 a2, .int .u64 a3]] w fun e w' => e = .returned (.bool false) ∧ Below w.heap.size w w') (w : World) :
    Calls Tryz.prog 24 #[.agg #[.int .u64 a0, .int .u64 a1, .int .u64 a2, .int .u64 a3], .agg #[.int .u64 b0, .int .u64 b1, .int .u64 b2, .int .u64 b3]] w fun e w' => e = .returned (.agg #[.int .u64 q0, .int .u64 q1, .int .u64 q2, .int .u64 q3]) ∧ Below w.heap.size w w' := by
  have HMA : Hid _ := MA
  have HMB : Hid _ := MB
  have HMO : Hid _ := MO
  have HNA : Hid _ := NA
  clear MA MB MO NA
  go_enter Tryz.func24, Tryz.ntmps24
  go_upto_region 1 with fail
  have X1 : Hid (Bx w [(w.heap.size + 1 + 1, 0, 0, 0, 0), (w.heap.size + 1, b0, b1, b2, b3), (w.heap.size, a0, a1, a2, a3)] (((w.alloc (.cells #[.int .u64 a0, .int .u64 a1, .int .u64 a2, .int .u64 a3] 24)).alloc (.cells #[.int .u64 b0, .int .u64 b1, .int .u64 b2, .int .u64 b3] 24)).alloc (.cells #[.int .u64 0, .int .u64 0, .int .u64 0, .int .u64 0] 24))) := by
    have h := (((Bx.start w).alloc a0 a1 a2 a3).alloc b0 b1 b2 b3).alloc 0 0 0 0
    (try simp only [World.size_alloc] at h)
    exact h
  generalize (((w.alloc (.cells #[.int .u64 a0, .int .u64 a1, .int .u64 a2, .int .u64 a3] 24)).alloc (.cells #[.int .u64 b0, .int .u64 b1, .int .u64 b2, .int .u64 b3] 24)).alloc (.cells #[.int .u64 0, .int .u64 0, .int .u64 0, .int .u64 0] 24)) = g2 at X1 ⊢
  go_cut [5] (fun sx wx => ∃ bk3 : Nat, sx = .pointer (some ⟨bk3, 0, none⟩) ∧ w.heap.size + 1 + 1 < bk3 ∧ w.heap.size + 1 < bk3 ∧ w.heap.size < bk3 ∧ Bx w [(bk3, q0, q1, q2, q3), (w.heap.size + 1 + 1, 0, 0, 0, 0), (w.heap.size + 1, b0, b1, b2, b3), (w.heap.size, a0, a1, a2, a3)] wx)
  case first =>
    refine wp_region_held_drew (S := fun w' => Bx w [(w.heap.size + 1 + 1, 0, 0, 0, 0), (w.heap.size + 1, b0, b1, b2, b3), (w.heap.size, a0, a1, a2, a3)] w') (by kernel_rfl) X1.out.drew (fun hHeld => ?_)
    generalize g2.drew = g4 at hHeld ⊢
    refine wpAnyH_take (i := 0) (v := .agg #[.int .u64 a0, .int .u64 a1, .int .u64 a2, .int .u64 a3]) op0 (by kernel_rfl) (by kernel_rfl) (by kernel_rfl) (fun _ _ _ h => h) (Or.inl ⟨by rfl, fun W hS => ?_⟩) hHeld ?_
    · obtain ⟨c0, c1, c2, c3, _⟩ := hS.f0 mm2
      go_simp
    simp only [Act.put, List.setIfInBounds_toArray, List.set_cons_zero, List.set_cons_succ]
    refine wpAnyH_take (i := 2) (v := .agg #[.int .u64 b0, .int .u64 b1, .int .u64 b2, .int .u64 b3]) op2 (by kernel_rfl) (by kernel_rfl) (by kernel_rfl) (fun _ _ _ h => h) (Or.inl ⟨by rfl, fun W hS => ?_⟩) hHeld ?_
    · obtain ⟨c0, c1, c2, c3, _⟩ := hS.f0 mm1
      go_simp
    simp only [Act.put, List.setIfInBounds_toArray, List.set_cons_zero, List.set_cons_succ]
    refine wpAnyH_ready (rs := [1, 5]) (by kernel_rfl) (by simp) ?_
    refine AllReadyH.cons op1 (fun K hK => ?_) (AllReadyH.cons op5 (fun K hK => ?_) AllReadyH.nil)
    · rw [if_pos (by rfl)]
      go_simp
      refine (HMA.out _).mono ?_
      rintro e g6 ⟨rfl, hB⟩
      have x7 := hHeld.past hB
      clear hB hHeld
      (try go_wp2_with fail)
      refine hK.out _ _ x7 (fun _ => ?_)
      clear hK K
      refine wpAnyH_ready (rs := [3, 5]) (by kernel_rfl) (by simp) ?_
      refine AllReadyH.cons op3 (fun K hK => ?_) (AllReadyH.cons op5 (fun K hK => ?_) AllReadyH.nil)
      · rw [if_pos (by rfl)]
        go_simp
        refine (HMB.out _).mono ?_
        rintro e g8 ⟨rfl, hB⟩
        have x9 := x7.past hB
        clear hB x7
        (try go_wp2_with fail)
        refine hK.out _ _ x9 (fun _ => ?_)
        clear hK K
        refine wpAnyH_ready (rs := [4, 5]) (by kernel_rfl) (by simp) ?_
        refine AllReadyH.cons op4 (fun K hK => ?_) (AllReadyH.cons op5 (fun K hK => ?_) AllReadyH.nil)
        · rw [if_pos (by rfl)]
          go_simp
          refine (HMO.out _).mono ?_
          rintro e g10 ⟨rfl, hB⟩
          have x11 := x9.past hB
          clear hB x9
          (try go_wp2_with fail)
          refine hK.out _ _ x11 (fun _ => ?_)
          clear hK K
          refine wpAnyH_ready (rs := [5]) (by kernel_rfl) (by simp) ?_
          refine AllReadyH.cons op5 (fun K hK => ?_) AllReadyH.nil
          rw [if_pos (by rfl)]
          go_simp
          have x13 : Bx w ((g10.heap.size, 0, 0, 0, 0) :: [(w.heap.size + 1 + 1, 0, 0, 0, 0), (w.heap.size + 1, b0, b1, b2, b3), (w.heap.size, a0, a1, a2, a3)]) (g10.alloc (.cells #[.int .u64 0, .int .u64 0, .int .u64 0, .int .u64 0] 24)) := x11.alloc 0 0 0 0
          have lbb5_0 : w.heap.size + 1 + 1 < g10.heap.size := x11.lt _ mm0
          have lbb5_1 : w.heap.size + 1 < g10.heap.size := x11.lt _ mm1
          have lbb5_2 : w.heap.size < g10.heap.size := x11.lt _ mm2
          refine hK.out _ _ (Bx.sub x13 (fun p hp => List.Mem.tail _ hp)) (fun _ => ?_)
          clear hK K x11
          generalize g10.alloc (.cells #[.int .u64 0, .int .u64 0, .int .u64 0, .int .u64 0] 24) = g12 at x13 ⊢
          generalize g10.heap.size = bb5 at x13 lbb5_0 lbb5_1 lbb5_2 ⊢
          refine wpAnyH_ready (rs := [6]) (by kernel_rfl) (by simp) ?_
          refine AllReadyH.cons op6 (fun K hK => ?_) AllReadyH.nil
          rw [if_pos (by rfl)]
          obtain ⟨c0, c1, c2, c3, f0, f1, f2, f3⟩ := x13.f0 mm0
          go_simp
          have x15 : Bx w ((bb5, q0, q1, q2, q3) :: [(w.heap.size + 1 + 1, 0, 0, 0, 0), (w.heap.size + 1, b0, b1, b2, b3), (w.heap.size, a0, a1, a2, a3)]) ((((g12.setCell ⟨bb5, 0, none⟩ (.int .u64 q0)).setCell ⟨bb5, 1, none⟩ (.int .u64 q1)).setCell ⟨bb5, 2, none⟩ (.int .u64 q2)).setCell ⟨bb5, 3, none⟩ (.int .u64 q3)) := Bx.put x13 (by intro p hp; simp only [List.mem_cons, List.not_mem_nil, or_false] at hp; rcases hp with rfl | rfl | rfl <;> simp <;> omega) q0 q1 q2 q3
          refine hK.out _ _ (Bx.sub x15 (fun p hp => List.Mem.tail _ hp)) (fun _ => ?_)
          clear hK K c0 c1 c2 c3 f0 f1 f2 f3 x13
          generalize ((((g12.setCell ⟨bb5, 0, none⟩ (.int .u64 q0)).setCell ⟨bb5, 1, none⟩ (.int .u64 q1)).setCell ⟨bb5, 2, none⟩ (.int .u64 q2)).setCell ⟨bb5, 3, none⟩ (.int .u64 q3)) = g14 at x15 ⊢
          (try simp only [Act.put])
          refine wpAnyH_done (by kernel_rfl) ?_ _
          go_wp2
          go_meet
          case rel => exact ⟨bb5, rfl, lbb5_0, lbb5_1, lbb5_2, x15⟩
        · rw [if_pos (by rfl)]
          go_simp
          have x17 : Bx w ((g8.heap.size, 0, 0, 0, 0) :: [(w.heap.size + 1 + 1, 0, 0, 0, 0), (w.heap.size + 1, b0, b1, b2, b3), (w.heap.size, a0, a1, a2, a3)]) (g8.alloc (.cells #[.int .u64 0, .int .u64 0, .int .u64 0, .int .u64 0] 24)) := x9.alloc 0 0 0 0
          have lbb5_0 : w.heap.size + 1 + 1 < g8.heap.size := x9.lt _ mm0
          have lbb5_1 : w.heap.size + 1 < g8.heap.size := x9.lt _ mm1
          have lbb5_2 : w.heap.size < g8.heap.size := x9.lt _ mm2
          refine hK.out _ _ (Bx.sub x17 (fun p hp => List.Mem.tail _ hp)) (fun _ => ?_)
          clear hK K x9
          generalize g8.alloc (.cells #[.int .u64 0, .int .u64 0, .int .u64 0, .int .u64 0] 24) = g16 at x17 ⊢
          generalize g8.heap.size = bb5 at x17 lbb5_0 lbb5_1 lbb5_2 ⊢
          refine wpAnyH_ready (rs := [4]) (by kernel_rfl) (by simp) ?_
          refine AllReadyH.cons op4 (fun K hK => ?_) AllReadyH.nil
          rw [if_pos (by rfl)]
          go_simp
          refine (HMO.out _).mono ?_
          rintro e g18 ⟨rfl, hB⟩
          have x19 := x17.past hB
          clear hB x17
          (try go_wp2_with fail)
          refine hK.out _ _ (Bx.sub x19 (fun p hp => List.Mem.tail _ hp)) (fun _ => ?_)
          clear hK K
          refine wpAnyH_ready (rs := [6]) (by kernel_rfl) (by simp) ?_
          refine AllReadyH.cons op6 (fun K hK => ?_) AllReadyH.nil
          rw [if_pos (by rfl)]
          obtain ⟨c0, c1, c2, c3, f0, f1, f2, f3⟩ := x19.f0 mm0
          go_simp
          have x21 : Bx w ((bb5, q0, q1, q2, q3) :: [(w.heap.size + 1 + 1, 0, 0, 0, 0), (w.heap.size + 1, b0, b1, b2, b3), (w.heap.size, a0, a1, a2, a3)]) ((((g18.setCell ⟨bb5, 0, none⟩ (.int .u64 q0)).setCell ⟨bb5, 1, none⟩ (.int .u64 q1)).setCell ⟨bb5, 2, none⟩ (.int .u64 q2)).setCell ⟨bb5, 3, none⟩ (.int .u64 q3)) := Bx.put x19 (by intro p hp; simp only [List.mem_cons, List.not_mem_nil, or_false] at hp; rcases hp with rfl | rfl | rfl <;> simp <;> omega) q0 q1 q2 q3
          refine hK.out _ _ (Bx.sub x21 (fun p hp => List.Mem.tail _ hp)) (fun _ => ?_)
          clear hK K c0 c1 c2 c3 f0 f1 f2 f3 x19
          generalize ((((g18.setCell ⟨bb5, 0, none⟩ (.int .u64 q0)).setCell ⟨bb5, 1, none⟩ (.int .u64 q1)).setCell ⟨bb5, 2, none⟩ (.int .u64 q2)).setCell ⟨bb5, 3, none⟩ (.int .u64 q3)) = g20 at x21 ⊢
          (try simp only [Act.put])
          refine wpAnyH_done (by kernel_rfl) ?_ _
          go_wp2
          go_meet
          case rel => exact ⟨bb5, rfl, lbb5_0, lbb5_1, lbb5_2, x21⟩
      · rw [if_pos (by rfl)]
        go_simp
        have x23 : Bx w ((g6.heap.size, 0, 0, 0, 0) :: [(w.heap.size + 1 + 1, 0, 0, 0, 0), (w.heap.size + 1, b0, b1, b2, b3), (w.heap.size, a0, a1, a2, a3)]) (g6.alloc (.cells #[.int .u64 0, .int .u64 0, .int .u64 0, .int .u64 0] 24)) := x7.alloc 0 0 0 0
        have lbb5_0 : w.heap.size + 1 + 1 < g6.heap.size := x7.lt _ mm0
        have lbb5_1 : w.heap.size + 1 < g6.heap.size := x7.lt _ mm1
        have lbb5_2 : w.heap.size < g6.heap.size := x7.lt _ mm2
        refine hK.out _ _ (Bx.sub x23 (fun p hp => List.Mem.tail _ hp)) (fun _ => ?_)
        clear hK K x7
        generalize g6.alloc (.cells #[.int .u64 0, .int .u64 0, .int .u64 0, .int .u64 0] 24) = g22 at x23 ⊢
        generalize g6.heap.size = bb5 at x23 lbb5_0 lbb5_1 lbb5_2 ⊢
        refine wpAnyH_ready (rs := [3]) (by kernel_rfl) (by simp) ?_
        refine AllReadyH.cons op3 (fun K hK => ?_) AllReadyH.nil
        rw [if_pos (by rfl)]
        go_simp
        refine (HMB.out _).mono ?_
        rintro e g24 ⟨rfl, hB⟩
        have x25 := x23.past hB
        clear hB x23
        (try go_wp2_with fail)
        refine hK.out _ _ (Bx.sub x25 (fun p hp => List.Mem.tail _ hp)) (fun _ => ?_)
        clear hK K
        refine wpAnyH_ready (rs := [4]) (by kernel_rfl) (by simp) ?_
        refine AllReadyH.cons op4 (fun K hK => ?_) AllReadyH.nil
        rw [if_pos (by rfl)]
        go_simp
        refine (HMO.out _).mono ?_
        rintro e g26 ⟨rfl, hB⟩
        have x27 := x25.past hB
        clear hB x25
        (try go_wp2_with fail)
        refine hK.out _ _ (Bx.sub x27 (fun p hp => List.Mem.tail _ hp)) (fun _ => ?_)
        clear hK K
        refine wpAnyH_ready (rs := [6]) (by kernel_rfl) (by simp) ?_
        refine AllReadyH.cons op6 (fun K hK => ?_) AllReadyH.nil
        rw [if_pos (by rfl)]
        obtain ⟨c0, c1, c2, c3, f0, f1, f2, f3⟩ := x27.f0 mm0
        go_simp
        have x29 : Bx w ((bb5, q0, q1, q2, q3) :: [(w.heap.size + 1 + 1, 0, 0, 0, 0), (w.heap.size + 1, b0, b1, b2, b3), (w.heap.size, a0, a1, a2, a3)]) ((((g26.setCell ⟨bb5, 0, none⟩ (.int .u64 q0)).setCell ⟨bb5, 1, none⟩ (.int .u64 q1)).setCell ⟨bb5, 2, none⟩ (.int .u64 q2)).setCell ⟨bb5, 3, none⟩ (.int .u64 q3)) := Bx.put x27 (by intro p hp; simp only [List.mem_cons, List.not_mem_nil, or_false] at hp; rcases hp with rfl | rfl | rfl <;> simp <;> omega) q0 q1 q2 q3
        refine hK.out _ _ (Bx.sub x29 (fun p hp => List.Mem.tail _ hp)) (fun _ => ?_)
        clear hK K c0 c1 c2 c3 f0 f1 f2 f3 x27
        generalize ((((g26.setCell ⟨bb5, 0, none⟩ (.int .u64 q0)).setCell ⟨bb5, 1, none⟩ (.int .u64 q1)).setCell ⟨bb5, 2, none⟩ (.int .u64 q2)).setCell ⟨bb5, 3, none⟩ (.int .u64 q3)) = g28 at x29 ⊢
        (try simp only [Act.put])
        refine wpAnyH_done (by kernel_rfl) ?_ _
        go_wp2
        go_meet
        case rel => exact ⟨bb5, rfl, lbb5_0, lbb5_1, lbb5_2, x29⟩
    · rw [if_pos (by rfl)]
      go_simp
      have x31 : Bx w ((g4.heap.size, 0, 0, 0, 0) :: [(w.heap.size + 1 + 1, 0, 0, 0, 0), (w.heap.size + 1, b0, b1, b2, b3), (w.heap.size, a0, a1, a2, a3)]) (g4.alloc (.cells #[.int .u64 0, .int .u64 0, .int .u64 0, .int .u64 0] 24)) := hHeld.alloc 0 0 0 0
      have lbb5_0 : w.heap.size + 1 + 1 < g4.heap.size := hHeld.lt _ mm0
      have lbb5_1 : w.heap.size + 1 < g4.heap.size := hHeld.lt _ mm1
      have lbb5_2 : w.heap.size < g4.heap.size := hHeld.lt _ mm2
      refine hK.out _ _ (Bx.sub x31 (fun p hp => List.Mem.tail _ hp)) (fun _ => ?_)
      clear hK K hHeld
      generalize g4.alloc (.cells #[.int .u64 0, .int .u64 0, .int .u64 0, .int .u64 0] 24) = g30 at x31 ⊢
      generalize g4.heap.size = bb5 at x31 lbb5_0 lbb5_1 lbb5_2 ⊢
      refine wpAnyH_ready (rs := [1]) (by kernel_rfl) (by simp) ?_
      refine AllReadyH.cons op1 (fun K hK => ?_) AllReadyH.nil
      rw [if_pos (by rfl)]
      go_simp
      refine (HMA.out _).mono ?_
      rintro e g32 ⟨rfl, hB⟩
      have x33 := x31.past hB
      clear hB x31
      (try go_wp2_with fail)
      refine hK.out _ _ (Bx.sub x33 (fun p hp => List.Mem.tail _ hp)) (fun _ => ?_)
      clear hK K
      refine wpAnyH_ready (rs := [3]) (by kernel_rfl) (by simp) ?_
      refine AllReadyH.cons op3 (fun K hK => ?_) AllReadyH.nil
      rw [if_pos (by rfl)]
      go_simp
      refine (HMB.out _).mono ?_
      rintro e g34 ⟨rfl, hB⟩
      have x35 := x33.past hB
      clear hB x33
      (try go_wp2_with fail)
      refine hK.out _ _ (Bx.sub x35 (fun p hp => List.Mem.tail _ hp)) (fun _ => ?_)
      clear hK K
      refine wpAnyH_ready (rs := [4]) (by kernel_rfl) (by simp) ?_
      refine AllReadyH.cons op4 (fun K hK => ?_) AllReadyH.nil
      rw [if_pos (by rfl)]
      go_simp
      refine (HMO.out _).mono ?_
      rintro e g36 ⟨rfl, hB⟩
      have x37 := x35.past hB
      clear hB x35
      (try go_wp2_with fail)
      refine hK.out _ _ (Bx.sub x37 (fun p hp => List.Mem.tail _ hp)) (fun _ => ?_)
      clear hK K
      refine wpAnyH_ready (rs := [6]) (by kernel_rfl) (by simp) ?_
      refine AllReadyH.cons op6 (fun K hK => ?_) AllReadyH.nil
      rw [if_pos (by rfl)]
      obtain ⟨c0, c1, c2, c3, f0, f1, f2, f3⟩ := x37.f0 mm0
      go_simp
      have x39 : Bx w ((bb5, q0, q1, q2, q3) :: [(w.heap.size + 1 + 1, 0, 0, 0, 0), (w.heap.size + 1, b0, b1, b2, b3), (w.heap.size, a0, a1, a2, a3)]) ((((g36.setCell ⟨bb5, 0, none⟩ (.int .u64 q0)).setCell ⟨bb5, 1, none⟩ (.int .u64 q1)).setCell ⟨bb5, 2, none⟩ (.int .u64 q2)).setCell ⟨bb5, 3, none⟩ (.int .u64 q3)) := Bx.put x37 (by intro p hp; simp only [List.mem_cons, List.not_mem_nil, or_false] at hp; rcases hp with rfl | rfl | rfl <;> simp <;> omega) q0 q1 q2 q3
      refine hK.out _ _ (Bx.sub x39 (fun p hp => List.Mem.tail _ hp)) (fun _ => ?_)
      clear hK K c0 c1 c2 c3 f0 f1 f2 f3 x37
      generalize ((((g36.setCell ⟨bb5, 0, none⟩ (.int .u64 q0)).setCell ⟨bb5, 1, none⟩ (.int .u64 q1)).setCell ⟨bb5, 2, none⟩ (.int .u64 q2)).setCell ⟨bb5, 3, none⟩ (.int .u64 q3)) = g38 at x39 ⊢
      (try simp only [Act.put])
      refine wpAnyH_done (by kernel_rfl) ?_ _
      go_wp2
      go_meet
      case rel => exact ⟨bb5, rfl, lbb5_0, lbb5_1, lbb5_2, x39⟩
  case rest =>
    obtain ⟨bk3, rfl, lbk3_0, lbk3_1, lbk3_2, hX⟩ := hcut
    have X40 : Hid (Bx w [(bk3, q0, q1, q2, q3), (w.heap.size + 1 + 1, 0, 0, 0, 0), (w.heap.size + 1, b0, b1, b2, b3), (w.heap.size, a0, a1, a2, a3)] wc) := hX
    generalize wc = g41 at hX X40 ⊢
    clear hX X1
    go_upto_region 2 with fail
    obtain ⟨k42_3_0, k42_3_1, k42_3_2, k42_3_3, k42_3_4, k42_3_5, k42_3_6, k42_3_7⟩ := X40.out.f0 mm3
    go_upto_region 4 with (first | (go_at_call 91; refine (HNA.out _).mono ?_; rintro e g44 ⟨rfl, hB⟩; (have X43 : Hid _ := X40.out.past hB); clear hB X40 k42_3_0 k42_3_1 k42_3_2 k42_3_3 k42_3_4 k42_3_5 k42_3_6 k42_3_7; obtain ⟨k45_3_0, k45_3_1, k45_3_2, k45_3_3, k45_3_4, k45_3_5, k45_3_6, k45_3_7⟩ := X43.out.f0 mm3))
    clear k45_3_0 k45_3_1 k45_3_2 k45_3_3 k45_3_4 k45_3_5 k45_3_6 k45_3_7
    obtain ⟨k46_0_0, k46_0_1, k46_0_2, k46_0_3, k46_0_4, k46_0_5, k46_0_6, k46_0_7⟩ := X43.out.f0 mm0
    obtain ⟨k46_1_0, k46_1_1, k46_1_2, k46_1_3, k46_1_4, k46_1_5, k46_1_6, k46_1_7⟩ := X43.out.f0 mm1
    go_wp2
    clear k46_0_0 k46_0_1 k46_0_2 k46_0_3 k46_0_4 k46_0_5 k46_0_6 k46_0_7 k46_1_0 k46_1_1 k46_1_2 k46_1_3 k46_1_4 k46_1_5 k46_1_6 k46_1_7
    have X47 : Hid (Bx w ((w.heap.size + 1 + 1, q0, q1, q2, q3) :: [(bk3, q0, q1, q2, q3), (w.heap.size + 1, b0, b1, b2, b3), (w.heap.size, a0, a1, a2, a3)]) ((((g44.setCell ⟨w.heap.size + 1 + 1, 0, none⟩ (.int .u64 q0)).setCell ⟨w.heap.size + 1 + 1, 1, none⟩ (.int .u64 q1)).setCell ⟨w.heap.size + 1 + 1, 2, none⟩ (.int .u64 q2)).setCell ⟨w.heap.size + 1 + 1, 3, none⟩ (.int .u64 q3))) := Bx.put (Bx.sub X43.out (l := [(bk3, q0, q1, q2, q3), (w.heap.size + 1 + 1, 0, 0, 0, 0), (w.heap.size + 1, b0, b1, b2, b3), (w.heap.size, a0, a1, a2, a3)]) (m := [(w.heap.size + 1 + 1, 0, 0, 0, 0), (bk3, q0, q1, q2, q3), (w.heap.size + 1, b0, b1, b2, b3), (w.heap.size, a0, a1, a2, a3)]) (by intro p hp; simp only [List.mem_cons, List.not_mem_nil, or_false] at hp ⊢; rcases hp with rfl | rfl | rfl | rfl <;> simp)) (by intro p hp; simp only [List.mem_cons, List.not_mem_nil, or_false] at hp; rcases hp with rfl | rfl | rfl <;> simp <;> omega) q0 q1 q2 q3
    generalize ((((g44.setCell ⟨w.heap.size + 1 + 1, 0, none⟩ (.int .u64 q0)).setCell ⟨w.heap.size + 1 + 1, 1, none⟩ (.int .u64 q1)).setCell ⟨w.heap.size + 1 + 1, 2, none⟩ (.int .u64 q2)).setCell ⟨w.heap.size + 1 + 1, 3, none⟩ (.int .u64 q3)) = g48 at X47 ⊢
    clear X43
    refine bodyPost_ret (v := .agg #[.int .u64 q0, .int .u64 q1, .int .u64 q2, .int .u64 q3]) ?_ rfl ⟨rfl, X47.out.bel⟩
    exact results_c Tryz.results24 _ _ _ ⟨w.heap.size + 1 + 1, 0, none⟩ rfl (loadVar4 (X47.out.box _ mm0))
set_option maxHeartbeats 4000000 in
set_option maxRecDepth 100000 in
theorem sdiv_10 (a0 a1 a2 a3 b0 b1 b2 b3 u0 u1 u2 u3 v0 v1 v2 v3 q0 q1 q2 q3 z0 z1 z2 z3 : Int) (MA : ∀ w : World, Calls Tryz.prog 90 #[.agg #[.int .u64 a0, .int .u64 a1, .int .u64 a2, .int .u64 a3]] w fun e w' => e = .returned (.agg #[.int .u64 u0, .int .u64 u1, .int .u64 u2, .int .u64 u3]) ∧ Below w.heap.size w w') (MB : ∀ w : World, Calls Tryz.prog 90 #[.agg #[.int .u64 b0, .int .u64 b1, .int .u64 b2, .int .u64 b3]] w fun e w' => e = .returned (.agg #[.int .u64 v0, .int .u64 v1, .int .u64 v2, .int .u64 v3]) ∧ Below w.heap.size w w') (DI : ∀ w : World, Calls Tryz.prog 17 #[.agg #[.int .u64 u0, .int .u64 u1, .int .u64 u2, .int .u64 u3], .agg #[.int .u64 v0, .int .u64 v1, .int .u64 v2, .int .u64 v3]] w fun e w' => e = .returned (.agg #[.int .u64 q0, .int .u64 q1, .int .u64 q2, .int .u64 q3]) ∧ Below w.heap.size w w') (NA : ∀ w : World, Calls Tryz.prog 91 #[.agg #[.int .u64 a0, .int .u64 a1, .int .u64 a2, .int .u64 a3]] w fun e w' => e = .returned (.bool true) ∧ Below w.heap.size w w') (NB : ∀ w : World, Calls Tryz.prog 91 #[.agg #[.int .u64 b0, .int .u64 b1, .int .u64 b2, .int .u64 b3]] w fun e w' => e = .returned (.bool false) ∧ Below w.heap.size w w') (NG : ∀ w : World, Calls Tryz.prog 92 #[.agg #[.int .u64 q0, .int .u64 q1, .int .u64 q2, .int .u64 q3]] w fun e w' => e = .returned (.agg #[.int .u64 z0, .int .u64 z1, .int .u64 z2, .int .u64 z3]) ∧ Below w.heap.size w w') (w : World) :
    Calls Tryz.prog 22 #[.agg #[.int .u64 a0, .int .u64 a1, .int .u64 a2, .int .u64 a3], .agg #[.int .u64 b0, .int .u64 b1, .int .u64 b2, .int .u64 b3]] w fun e w' => e = .returned (.agg #[.int .u64 z0, .int .u64 z1, .int .u64 z2, .int .u64 z3]) ∧ Below w.heap.size w w' := by
  have HMA : Hid _ := MA
  have HMB : Hid _ := MB
  have HDI : Hid _ := DI
  have HNA : Hid _ := NA
  have HNB : Hid _ := NB
  have HNG : Hid _ := NG
  clear MA MB DI NA NB NG
  go_enter Tryz.func22, Tryz.ntmps22
  go_upto_region 1 with fail
  have X1 : Hid (Bx w [(w.heap.size + 1 + 1, 0, 0, 0, 0), (w.heap.size + 1, b0, b1, b2, b3), (w.heap.size, a0, a1, a2, a3)] (((w.alloc (.cells #[.int .u64 a0, .int .u64 a1, .int .u64 a2, .int .u64 a3] 24)).alloc (.cells #[.int .u64 b0, .int .u64 b1, .int .u64 b2, .int .u64 b3] 24)).alloc (.cells #[.int .u64 0, .int .u64 0, .int .u64 0, .int .u64 0] 24))) := by
    have h := (((Bx.start w).alloc a0 a1 a2 a3).alloc b0 b1 b2 b3).alloc 0 0 0 0
    (try simp only [World.size_alloc] at h)
    exact h
  generalize (((w.alloc (.cells #[.int .u64 a0, .int .u64 a1, .int .u64 a2, .int .u64 a3] 24)).alloc (.cells #[.int .u64 b0, .int .u64 b1, .int .u64 b2, .int .u64 b3] 24)).alloc (.cells #[.int .u64 0, .int .u64 0, .int .u64 0, .int .u64 0] 24)) = g2 at X1 ⊢
  go_cut [5] (fun sx wx => ∃ bk3 : Nat, sx = .pointer (some ⟨bk3, 0, none⟩) ∧ w.heap.size + 1 + 1 < bk3 ∧ w.heap.size + 1 < bk3 ∧ w.heap.size < bk3 ∧ Bx w [(bk3, q0, q1, q2, q3), (w.heap.size + 1 + 1, 0, 0, 0, 0), (w.heap.size + 1, b0, b1, b2, b3), (w.heap.size, a0, a1, a2, a3)] wx)
  case first =>
    refine wp_region_held_drew (S := fun w' => Bx w [(w.heap.size + 1 + 1, 0, 0, 0, 0), (w.heap.size + 1, b0, b1, b2, b3), (w.heap.size, a0, a1, a2, a3)] w') (by kernel_rfl) X1.out.drew (fun hHeld => ?_)
    generalize g2.drew = g4 at hHeld ⊢
    refine wpAnyH_take (i := 0) (v := .agg #[.int .u64 a0, .int .u64 a1, .int .u64 a2, .int .u64 a3]) op0 (by kernel_rfl) (by kernel_rfl) (by kernel_rfl) (fun _ _ _ h => h) (Or.inl ⟨by rfl, fun W hS => ?_⟩) hHeld ?_
    · obtain ⟨c0, c1, c2, c3, _⟩ := hS.f0 mm2
      go_simp
    simp only [Act.put, List.setIfInBounds_toArray, List.set_cons_zero, List.set_cons_succ]
    refine wpAnyH_take (i := 2) (v := .agg #[.int .u64 b0, .int .u64 b1, .int .u64 b2, .int .u64 b3]) op2 (by kernel_rfl) (by kernel_rfl) (by kernel_rfl) (fun _ _ _ h => h) (Or.inl ⟨by rfl, fun W hS => ?_⟩) hHeld ?_
    · obtain ⟨c0, c1, c2, c3, _⟩ := hS.f0 mm1
      go_simp
    simp only [Act.put, List.setIfInBounds_toArray, List.set_cons_zero, List.set_cons_succ]
    refine wpAnyH_ready (rs := [1, 5]) (by kernel_rfl) (by simp) ?_
    refine AllReadyH.cons op1 (fun K hK => ?_) (AllReadyH.cons op5 (fun K hK => ?_) AllReadyH.nil)
    · rw [if_pos (by rfl)]
      go_simp
      refine (HMA.out _).mono ?_
      rintro e g6 ⟨rfl, hB⟩
      have x7 := hHeld.past hB
      clear hB hHeld
      (try go_wp2_with fail)
      refine hK.out _ _ x7 (fun _ => ?_)
      clear hK K
      refine wpAnyH_ready (rs := [3, 5]) (by kernel_rfl) (by simp) ?_
      refine AllReadyH.cons op3 (fun K hK => ?_) (AllReadyH.cons op5 (fun K hK => ?_) AllReadyH.nil)
      · rw [if_pos (by rfl)]
        go_simp
        refine (HMB.out _).mono ?_
        rintro e g8 ⟨rfl, hB⟩
        have x9 := x7.past hB
        clear hB x7
        (try go_wp2_with fail)
        refine hK.out _ _ x9 (fun _ => ?_)
        clear hK K
        refine wpAnyH_ready (rs := [4, 5]) (by kernel_rfl) (by simp) ?_
        refine AllReadyH.cons op4 (fun K hK => ?_) (AllReadyH.cons op5 (fun K hK => ?_) AllReadyH.nil)
        · rw [if_pos (by rfl)]
          go_simp
          refine (HDI.out _).mono ?_
          rintro e g10 ⟨rfl, hB⟩
          have x11 := x9.past hB
          clear hB x9
          (try go_wp2_with fail)
          refine hK.out _ _ x11 (fun _ => ?_)
          clear hK K
          refine wpAnyH_ready (rs := [5]) (by kernel_rfl) (by simp) ?_
          refine AllReadyH.cons op5 (fun K hK => ?_) AllReadyH.nil
          rw [if_pos (by rfl)]
          go_simp
          have x13 : Bx w ((g10.heap.size, 0, 0, 0, 0) :: [(w.heap.size + 1 + 1, 0, 0, 0, 0), (w.heap.size + 1, b0, b1, b2, b3), (w.heap.size, a0, a1, a2, a3)]) (g10.alloc (.cells #[.int .u64 0, .int .u64 0, .int .u64 0, .int .u64 0] 24)) := x11.alloc 0 0 0 0
          have lbb5_0 : w.heap.size + 1 + 1 < g10.heap.size := x11.lt _ mm0
          have lbb5_1 : w.heap.size + 1 < g10.heap.size := x11.lt _ mm1
          have lbb5_2 : w.heap.size < g10.heap.size := x11.lt _ mm2
          refine hK.out _ _ (Bx.sub x13 (fun p hp => List.Mem.tail _ hp)) (fun _ => ?_)
          clear hK K x11
          generalize g10.alloc (.cells #[.int .u64 0, .int .u64 0, .int .u64 0, .int .u64 0] 24) = g12 at x13 ⊢
          generalize g10.heap.size = bb5 at x13 lbb5_0 lbb5_1 lbb5_2 ⊢
          refine wpAnyH_ready (rs := [6]) (by kernel_rfl) (by simp) ?_
          refine AllReadyH.cons op6 (fun K hK => ?_) AllReadyH.nil
          rw [if_pos (by rfl)]
          obtain ⟨c0, c1, c2, c3, f0, f1, f2, f3⟩ := x13.f0 mm0
          go_simp
          have x15 : Bx w ((bb5, q0, q1, q2, q3) :: [(w.heap.size + 1 + 1, 0, 0, 0, 0), (w.heap.size + 1, b0, b1, b2, b3), (w.heap.size, a0, a1, a2, a3)]) ((((g12.setCell ⟨bb5, 0, none⟩ (.int .u64 q0)).setCell ⟨bb5, 1, none⟩ (.int .u64 q1)).setCell ⟨bb5, 2, none⟩ (.int .u64 q2)).setCell ⟨bb5, 3, none⟩ (.int .u64 q3)) := Bx.put x13 (by intro p hp; simp only [List.mem_cons, List.not_mem_nil, or_false] at hp; rcases hp with rfl | rfl | rfl <;> simp <;> omega) q0 q1 q2 q3
          refine hK.out _ _ (Bx.sub x15 (fun p hp => List.Mem.tail _ hp)) (fun _ => ?_)
          clear hK K c0 c1 c2 c3 f0 f1 f2 f3 x13
          generalize ((((g12.setCell ⟨bb5, 0, none⟩ (.int .u64 q0)).setCell ⟨bb5, 1, none⟩ (.int .u64 q1)).setCell ⟨bb5, 2, none⟩ (.int .u64 q2)).setCell ⟨bb5, 3, none⟩ (.int .u64 q3)) = g14 at x15 ⊢
          (try simp only [Act.put])
          refine wpAnyH_done (by kernel_rfl) ?_ _
          go_wp2
          go_meet
          case rel => exact ⟨bb5, rfl, lbb5_0, lbb5_1, lbb5_2, x15⟩
        · rw [if_pos (by rfl)]
          go_simp
          have x17 : Bx w ((g8.heap.size, 0, 0, 0, 0) :: [(w.heap.size + 1 + 1, 0, 0, 0, 0), (w.heap.size + 1, b0, b1, b2, b3), (w.heap.size, a0, a1, a2, a3)]) (g8.alloc (.cells #[.int .u64 0, .int .u64 0, .int .u64 0, .int .u64 0] 24)) := x9.alloc 0 0 0 0
          have lbb5_0 : w.heap.size + 1 + 1 < g8.heap.size := x9.lt _ mm0
          have lbb5_1 : w.heap.size + 1 < g8.heap.size := x9.lt _ mm1
          have lbb5_2 : w.heap.size < g8.heap.size := x9.lt _ mm2
          refine hK.out _ _ (Bx.sub x17 (fun p hp => List.Mem.tail _ hp)) (fun _ => ?_)
          clear hK K x9
          generalize g8.alloc (.cells #[.int .u64 0, .int .u64 0, .int .u64 0, .int .u64 0] 24) = g16 at x17 ⊢
          generalize g8.heap.size = bb5 at x17 lbb5_0 lbb5_1 lbb5_2 ⊢
          refine wpAnyH_ready (rs := [4]) (by kernel_rfl) (by simp) ?_
          refine AllReadyH.cons op4 (fun K hK => ?_) AllReadyH.nil
          rw [if_pos (by rfl)]
          go_simp
          refine (HDI.out _).mono ?_
          rintro e g18 ⟨rfl, hB⟩
          have x19 := x17.past hB
          clear hB x17
          (try go_wp2_with fail)
          refine hK.out _ _ (Bx.sub x19 (fun p hp => List.Mem.tail _ hp)) (fun _ => ?_)
          clear hK K
          refine wpAnyH_ready (rs := [6]) (by kernel_rfl) (by simp) ?_
          refine AllReadyH.cons op6 (fun K hK => ?_) AllReadyH.nil
          rw [if_pos (by rfl)]
          obtain ⟨c0, c1, c2, c3, f0, f1, f2, f3⟩ := x19.f0 mm0
          go_simp
          have x21 : Bx w ((bb5, q0, q1, q2, q3) :: [(w.heap.size + 1 + 1, 0, 0, 0, 0), (w.heap.size + 1, b0, b1, b2, b3), (w.heap.size, a0, a1, a2, a3)]) ((((g18.setCell ⟨bb5, 0, none⟩ (.int .u64 q0)).setCell ⟨bb5, 1, none⟩ (.int .u64 q1)).setCell ⟨bb5, 2, none⟩ (.int .u64 q2)).setCell ⟨bb5, 3, none⟩ (.int .u64 q3)) := Bx.put x19 (by intro p hp; simp only [List.mem_cons, List.not_mem_nil, or_false] at hp; rcases hp with rfl | rfl | rfl <;> simp <;> omega) q0 q1 q2 q3
          refine hK.out _ _ (Bx.sub x21 (fun p hp => List.Mem.tail _ hp)) (fun _ => ?_)
          clear hK K c0 c1 c2 c3 f0 f1 f2 f3 x19
          generalize ((((g18.setCell ⟨bb5, 0, none⟩ (.int .u64 q0)).setCell ⟨bb5, 1, none⟩ (.int .u64 q1)).setCell ⟨bb5, 2, none⟩ (.int .u64 q2)).setCell ⟨bb5, 3, none⟩ (.int .u64 q3)) = g20 at x21 ⊢
          (try simp only [Act.put])
          refine wpAnyH_done (by kernel_rfl) ?_ _
          go_wp2
          go_meet
          case rel => exact ⟨bb5, rfl, lbb5_0, lbb5_1, lbb5_2, x21⟩
      · rw [if_pos (by rfl)]
        go_simp
        have x23 : Bx w ((g6.heap.size, 0, 0, 0, 0) :: [(w.heap.size + 1 + 1, 0, 0, 0, 0), (w.heap.size + 1, b0, b1, b2, b3), (w.heap.size, a0, a1, a2, a3)]) (g6.alloc (.cells #[.int .u64 0, .int .u64 0, .int .u64 0, .int .u64 0] 24)) := x7.alloc 0 0 0 0
        have lbb5_0 : w.heap.size + 1 + 1 < g6.heap.size := x7.lt _ mm0
        have lbb5_1 : w.heap.size + 1 < g6.heap.size := x7.lt _ mm1
        have lbb5_2 : w.heap.size < g6.heap.size := x7.lt _ mm2
        refine hK.out _ _ (Bx.sub x23 (fun p hp => List.Mem.tail _ hp)) (fun _ => ?_)
        clear hK K x7
        generalize g6.alloc (.cells #[.int .u64 0, .int .u64 0, .int .u64 0, .int .u64 0] 24) = g22 at x23 ⊢
        generalize g6.heap.size = bb5 at x23 lbb5_0 lbb5_1 lbb5_2 ⊢
        refine wpAnyH_ready (rs := [3]) (by kernel_rfl) (by simp) ?_
        refine AllReadyH.cons op3 (fun K hK => ?_) AllReadyH.nil
        rw [if_pos (by rfl)]
        go_simp
        refine (HMB.out _).mono ?_
        rintro e g24 ⟨rfl, hB⟩
        have x25 := x23.past hB
        clear hB x23
        (try go_wp2_with fail)
        refine hK.out _ _ (Bx.sub x25 (fun p hp => List.Mem.tail _ hp)) (fun _ => ?_)
        clear hK K
        refine wpAnyH_ready (rs := [4]) (by kernel_rfl) (by simp) ?_
        refine AllReadyH.cons op4 (fun K hK => ?_) AllReadyH.nil
        rw [if_pos (by rfl)]
        go_simp
        refine (HDI.out _).mono ?_
        rintro e g26 ⟨rfl, hB⟩
        have x27 := x25.past hB
        clear hB x25
        (try go_wp2_with fail)
        refine hK.out _ _ (Bx.sub x27 (fun p hp => List.Mem.tail _ hp)) (fun _ => ?_)
        clear hK K
        refine wpAnyH_ready (rs := [6]) (by kernel_rfl) (by simp) ?_
        refine AllReadyH.cons op6 (fun K hK => ?_) AllReadyH.nil
        rw [if_pos (by rfl)]
        obtain ⟨c0, c1, c2, c3, f0, f1, f2, f3⟩ := x27.f0 mm0
        go_simp
        have x29 : Bx w ((bb5, q0, q1, q2, q3) :: [(w.heap.size + 1 + 1, 0, 0, 0, 0), (w.heap.size + 1, b0, b1, b2, b3), (w.heap.size, a0, a1, a2, a3)]) ((((g26.setCell ⟨bb5, 0, none⟩ (.int .u64 q0)).setCell ⟨bb5, 1, none⟩ (.int .u64 q1)).setCell ⟨bb5, 2, none⟩ (.int .u64 q2)).setCell ⟨bb5, 3, none⟩ (.int .u64 q3)) := Bx.put x27 (by intro p hp; simp only [List.mem_cons, List.not_mem_nil, or_false] at hp; rcases hp with rfl | rfl | rfl <;> simp <;> omega) q0 q1 q2 q3
        refine hK.out _ _ (Bx.sub x29 (fun p hp => List.Mem.tail _ hp)) (fun _ => ?_)
        clear hK K c0 c1 c2 c3 f0 f1 f2 f3 x27
        generalize ((((g26.setCell ⟨bb5, 0, none⟩ (.int .u64 q0)).setCell ⟨bb5, 1, none⟩ (.int .u64 q1)).setCell ⟨bb5, 2, none⟩ (.int .u64 q2)).setCell ⟨bb5, 3, none⟩ (.int .u64 q3)) = g28 at x29 ⊢
        (try simp only [Act.put])
        refine wpAnyH_done (by kernel_rfl) ?_ _
        go_wp2
        go_meet
        case rel => exact ⟨bb5, rfl, lbb5_0, lbb5_1, lbb5_2, x29⟩
    · rw [if_pos (by rfl)]
      go_simp
      have x31 : Bx w ((g4.heap.size, 0, 0, 0, 0) :: [(w.heap.size + 1 + 1, 0, 0, 0, 0), (w.heap.size + 1, b0, b1, b2, b3), (w.heap.size, a0, a1, a2, a3)]) (g4.alloc (.cells #[.int .u64 0, .int .u64 0, .int .u64 0, .int .u64 0] 24)) := hHeld.alloc 0 0 0 0
      have lbb5_0 : w.heap.size + 1 + 1 < g4.heap.size := hHeld.lt _ mm0
      have lbb5_1 : w.heap.size + 1 < g4.heap.size := hHeld.lt _ mm1
      have lbb5_2 : w.heap.size < g4.heap.size := hHeld.lt _ mm2
      refine hK.out _ _ (Bx.sub x31 (fun p hp => List.Mem.tail _ hp)) (fun _ => ?_)
      clear hK K hHeld
      generalize g4.alloc (.cells #[.int .u64 0, .int .u64 0, .int .u64 0, .int .u64 0] 24) = g30 at x31 ⊢
      generalize g4.heap.size = bb5 at x31 lbb5_0 lbb5_1 lbb5_2 ⊢
      refine wpAnyH_ready (rs := [1]) (by kernel_rfl) (by simp) ?_
      refine AllReadyH.cons op1 (fun K hK => ?_) AllReadyH.nil
      rw [if_pos (by rfl)]
      go_simp
      refine (HMA.out _).mono ?_
      rintro e g32 ⟨rfl, hB⟩
      have x33 := x31.past hB
      clear hB x31
      (try go_wp2_with fail)
      refine hK.out _ _ (Bx.sub x33 (fun p hp => List.Mem.tail _ hp)) (fun _ => ?_)
      clear hK K
      refine wpAnyH_ready (rs := [3]) (by kernel_rfl) (by simp) ?_
      refine AllReadyH.cons op3 (fun K hK => ?_) AllReadyH.nil
      rw [if_pos (by rfl)]
      go_simp
      refine (HMB.out _).mono ?_
      rintro e g34 ⟨rfl, hB⟩
      have x35 := x33.past hB
      clear hB x33
      (try go_wp2_with fail)
      refine hK.out _ _ (Bx.sub x35 (fun p hp => List.Mem.tail _ hp)) (fun _ => ?_)
      clear hK K
      refine wpAnyH_ready (rs := [4]) (by kernel_rfl) (by simp) ?_
      refine AllReadyH.cons op4 (fun K hK => ?_) AllReadyH.nil
      rw [if_pos (by rfl)]
      go_simp
      refine (HDI.out _).mono ?_
      rintro e g36 ⟨rfl, hB⟩
      have x37 := x35.past hB
      clear hB x35
      (try go_wp2_with fail)
      refine hK.out _ _ (Bx.sub x37 (fun p hp => List.Mem.tail _ hp)) (fun _ => ?_)
      clear hK K
      refine wpAnyH_ready (rs := [6]) (by kernel_rfl) (by simp) ?_
      refine AllReadyH.cons op6 (fun K hK => ?_) AllReadyH.nil
      rw [if_pos (by rfl)]
      obtain ⟨c0, c1, c2, c3, f0, f1, f2, f3⟩ := x37.f0 mm0
      go_simp
      have x39 : Bx w ((bb5, q0, q1, q2, q3) :: [(w.heap.size + 1 + 1, 0, 0, 0, 0), (w.heap.size + 1, b0, b1, b2, b3), (w.heap.size, a0, a1, a2, a3)]) ((((g36.setCell ⟨bb5, 0, none⟩ (.int .u64 q0)).setCell ⟨bb5, 1, none⟩ (.int .u64 q1)).setCell ⟨bb5, 2, none⟩ (.int .u64 q2)).setCell ⟨bb5, 3, none⟩ (.int .u64 q3)) := Bx.put x37 (by intro p hp; simp only [List.mem_cons, List.not_mem_nil, or_false] at hp; rcases hp with rfl | rfl | rfl <;> simp <;> omega) q0 q1 q2 q3
      refine hK.out _ _ (Bx.sub x39 (fun p hp => List.Mem.tail _ hp)) (fun _ => ?_)
      clear hK K c0 c1 c2 c3 f0 f1 f2 f3 x37
      generalize ((((g36.setCell ⟨bb5, 0, none⟩ (.int .u64 q0)).setCell ⟨bb5, 1, none⟩ (.int .u64 q1)).setCell ⟨bb5, 2, none⟩ (.int .u64 q2)).setCell ⟨bb5, 3, none⟩ (.int .u64 q3)) = g38 at x39 ⊢
      (try simp only [Act.put])
      refine wpAnyH_done (by kernel_rfl) ?_ _
      go_wp2
      go_meet
      case rel => exact ⟨bb5, rfl, lbb5_0, lbb5_1, lbb5_2, x39⟩
  case rest =>
    obtain ⟨bk3, rfl, lbk3_0, lbk3_1, lbk3_2, hX⟩ := hcut
    have X40 : Hid (Bx w [(bk3, q0, q1, q2, q3), (w.heap.size + 1 + 1, 0, 0, 0, 0), (w.heap.size + 1, b0, b1, b2, b3), (w.heap.size, a0, a1, a2, a3)] wc) := hX
    generalize wc = g41 at hX X40 ⊢
    clear hX X1
    go_upto_region 2 with fail
    refine wp_region_held_drew (S := fun w' => Bx w [(bk3, q0, q1, q2, q3), (w.heap.size + 1 + 1, 0, 0, 0, 0), (w.heap.size + 1, b0, b1, b2, b3), (w.heap.size, a0, a1, a2, a3)] w') (by kernel_rfl) X40.out.drew (fun hHeld => ?_)
    generalize g41.drew = g42 at hHeld ⊢
    clear X40
    refine wpAnyH_take (i := 0) (v := .agg #[.int .u64 a0, .int .u64 a1, .int .u64 a2, .int .u64 a3]) op0 (by kernel_rfl) (by kernel_rfl) (by kernel_rfl) (fun _ _ _ h => h) (Or.inl ⟨by rfl, fun W hS => ?_⟩) hHeld ?_
    · obtain ⟨c0, c1, c2, c3, _⟩ := hS.f0 mm3
      go_simp
    simp only [Act.put, List.setIfInBounds_toArray, List.set_cons_zero, List.set_cons_succ]
    refine wpAnyH_take (i := 2) (v := .agg #[.int .u64 b0, .int .u64 b1, .int .u64 b2, .int .u64 b3]) op2 (by kernel_rfl) (by kernel_rfl) (by kernel_rfl) (fun _ _ _ h => h) (Or.inl ⟨by rfl, fun W hS => ?_⟩) hHeld ?_
    · obtain ⟨c0, c1, c2, c3, _⟩ := hS.f0 mm2
      go_simp
    simp only [Act.put, List.setIfInBounds_toArray, List.set_cons_zero, List.set_cons_succ]
    refine wpAnyH_ready (rs := [1]) (by kernel_rfl) (by simp) ?_
    refine AllReadyH.cons op1 (fun K hK => ?_) AllReadyH.nil
    rw [if_pos (by rfl)]
    go_simp
    refine (HNA.out _).mono ?_
    rintro e g43 ⟨rfl, hB⟩
    have x44 := hHeld.past hB
    clear hB hHeld
    (try go_wp2_with fail)
    refine hK.out _ _ x44 (fun _ => ?_)
    clear hK K
    refine wpAnyH_ready (rs := [3]) (by kernel_rfl) (by simp) ?_
    refine AllReadyH.cons op3 (fun K hK => ?_) AllReadyH.nil
    rw [if_pos (by rfl)]
    go_simp
    refine (HNB.out _).mono ?_
    rintro e g45 ⟨rfl, hB⟩
    have x46 := x44.past hB
    clear hB x44
    (try go_wp2_with fail)
    refine hK.out _ _ x46 (fun _ => ?_)
    clear hK K
    refine wpAnyH_take (i := 4) (v := .bool true) op4 (by kernel_rfl) (by kernel_rfl) (by kernel_rfl) (fun _ _ _ h => h) (Or.inl ⟨by rfl, fun W hS => ?_⟩) x46 ?_
    · go_simp
    simp only [Act.put, List.setIfInBounds_toArray, List.set_cons_zero, List.set_cons_succ]
    refine wpAnyH_done (by kernel_rfl) ?_ _
    have X47 : Hid (Bx w [(bk3, q0, q1, q2, q3), (w.heap.size + 1 + 1, 0, 0, 0, 0), (w.heap.size + 1, b0, b1, b2, b3), (w.heap.size, a0, a1, a2, a3)] g45) := x46
    clear x46
    go_upto_region 3 with fail
    obtain ⟨k48_0_0, k48_0_1, k48_0_2, k48_0_3, k48_0_4, k48_0_5, k48_0_6, k48_0_7⟩ := X47.out.f0 mm0
    obtain ⟨k48_1_0, k48_1_1, k48_1_2, k48_1_3, k48_1_4, k48_1_5, k48_1_6, k48_1_7⟩ := X47.out.f0 mm1
    go_wp2_with (first | (go_at_call 92; refine (HNG.out _).mono ?_; rintro e g50 ⟨rfl, hB⟩; (have X49 : Hid _ := X47.out.past hB); clear hB X47 k48_0_0 k48_0_1 k48_0_2 k48_0_3 k48_0_4 k48_0_5 k48_0_6 k48_0_7 k48_1_0 k48_1_1 k48_1_2 k48_1_3 k48_1_4 k48_1_5 k48_1_6 k48_1_7; obtain ⟨k51_0_0, k51_0_1, k51_0_2, k51_0_3, k51_0_4, k51_0_5, k51_0_6, k51_0_7⟩ := X49.out.f0 mm0; obtain ⟨k51_1_0, k51_1_1, k51_1_2, k51_1_3, k51_1_4, k51_1_5, k51_1_6, k51_1_7⟩ := X49.out.f0 mm1))
    clear k51_0_0 k51_0_1 k51_0_2 k51_0_3 k51_0_4 k51_0_5 k51_0_6 k51_0_7 k51_1_0 k51_1_1 k51_1_2 k51_1_3 k51_1_4 k51_1_5 k51_1_6 k51_1_7
    have X52 : Hid (Bx w ((w.heap.size + 1 + 1, z0, z1, z2, z3) :: [(bk3, q0, q1, q2, q3), (w.heap.size + 1, b0, b1, b2, b3), (w.heap.size, a0, a1, a2, a3)]) ((((g50.setCell ⟨w.heap.size + 1 + 1, 0, none⟩ (.int .u64 z0)).setCell ⟨w.heap.size + 1 + 1, 1, none⟩ (.int .u64 z1)).setCell ⟨w.heap.size + 1 + 1, 2, none⟩ (.int .u64 z2)).setCell ⟨w.heap.size + 1 + 1, 3, none⟩ (.int .u64 z3))) := Bx.put (Bx.sub X49.out (l := [(bk3, q0, q1, q2, q3), (w.heap.size + 1 + 1, 0, 0, 0, 0), (w.heap.size + 1, b0, b1, b2, b3), (w.heap.size, a0, a1, a2, a3)]) (m := [(w.heap.size + 1 + 1, 0, 0, 0, 0), (bk3, q0, q1, q2, q3), (w.heap.size + 1, b0, b1, b2, b3), (w.heap.size, a0, a1, a2, a3)]) (by intro p hp; simp only [List.mem_cons, List.not_mem_nil, or_false] at hp ⊢; rcases hp with rfl | rfl | rfl | rfl <;> simp)) (by intro p hp; simp only [List.mem_cons, List.not_mem_nil, or_false] at hp; rcases hp with rfl | rfl | rfl <;> simp <;> omega) z0 z1 z2 z3
    generalize ((((g50.setCell ⟨w.heap.size + 1 + 1, 0, none⟩ (.int .u64 z0)).setCell ⟨w.heap.size + 1 + 1, 1, none⟩ (.int .u64 z1)).setCell ⟨w.heap.size + 1 + 1, 2, none⟩ (.int .u64 z2)).setCell ⟨w.heap.size + 1 + 1, 3, none⟩ (.int .u64 z3)) = g53 at X52 ⊢
    clear X49
    refine bodyPost_ret (v := .agg #[.int .u64 z0, .int .u64 z1, .int .u64 z2, .int .u64 z3]) ?_ rfl ⟨rfl, X52.out.bel⟩
    exact results_c Tryz.results22 _ _ _ ⟨w.heap.size + 1 + 1, 0, none⟩ rfl (loadVar4 (X52.out.box _ mm0))
set_option maxHeartbeats 4000000 in
set_option maxRecDepth 100000 in
theorem sdiv_11 (a0 a1 a2 a3 b0 b1 b2 b3 u0 u1 u2 u3 v0 v1 v2 v3 q0 q1 q2 q3 : Int) (MA : ∀ w : World, Calls Tryz.prog 90 #[.agg #[.int .u64 a0, .int .u64 a1, .int .u64 a2, .int .u64 a3]] w fun e w' => e = .returned (.agg #[.int .u64 u0, .int .u64 u1, .int .u64 u2, .int .u64 u3]) ∧ Below w.heap.size w w') (MB : ∀ w : World, Calls Tryz.prog 90 #[.agg #[.int .u64 b0, .int .u64 b1, .int .u64 b2, .int .u64 b3]] w fun e w' => e = .returned (.agg #[.int .u64 v0, .int .u64 v1, .int .u64 v2, .int .u64 v3]) ∧ Below w.heap.size w w') (DI : ∀ w : World, Calls Tryz.prog 17 #[.agg #[.int .u64 u0, .int .u64 u1, .int .u64 u2, .int .u64 u3], .agg #[.int .u64 v0, .int .u64 v1, .int .u64 v2, .int .u64 v3]] w fun e w' => e = .returned (.agg #[.int .u64 q0, .int .u64 q1, .int .u64 q2, .int .u64 q3]) ∧ Below w.heap.size w w') (NA : ∀ w : World, Calls Tryz.prog 91 #[.agg #[.int .u64 a0, .int .u64 a1, .int .u64 a2, .int .u64 a3]] w fun e w' => e = .returned (.bool true) ∧ Below w.heap.size w w') (NB : ∀ w : World, Calls Tryz.prog 91 #[.agg #[.int .u64 b0, .int .u64 b1, .int .u64 b2, .int .u64 b3]] w fun e w' => e = .returned (.bool true) ∧ Below w.heap.size w w') (w : World) :
    Calls Tryz.prog 22 #[.agg #[.int .u64 a0, .int .u64 a1, .int .u64 a2, .int .u64 a3], .agg #[.int .u64 b0, .int .u64 b1, .int .u64 b2, .int .u64 b3]] w fun e w' => e = .returned (.agg #[.int .u64 q0, .int .u64 q1, .int .u64 q2, .int .u64 q3]) ∧ Below w.heap.size w w' := by
  have HMA : Hid _ := MA
  have HMB : Hid _ := MB
  have HDI : Hid _ := DI
  have HNA : Hid _ := NA
  have HNB : Hid _ := NB
  clear MA MB DI NA NB
  go_enter Tryz.func22, Tryz.ntmps22
  go_upto_region 1 with fail
  have X1 : Hid (Bx w [(w.heap.size + 1 + 1, 0, 0, 0, 0), (w.heap.size + 1, b0, b1, b2, b3), (w.heap.size, a0, a1, a2, a3)] (((w.alloc (.cells #[.int .u64 a0, .int .u64 a1, .int .u64 a2, .int .u64 a3] 24)).alloc (.cells #[.int .u64 b0, .int .u64 b1, .int .u64 b2, .int .u64 b3] 24)).alloc (.cells #[.int .u64 0, .int .u64 0, .int .u64 0, .int .u64 0] 24))) := by
    have h := (((Bx.start w).alloc a0 a1 a2 a3).alloc b0 b1 b2 b3).alloc 0 0 0 0
    (try simp only [World.size_alloc] at h)
    exact h
  generalize (((w.alloc (.cells #[.int .u64 a0, .int .u64 a1, .int .u64 a2, .int .u64 a3] 24)).alloc (.cells #[.int .u64 b0, .int .u64 b1, .int .u64 b2, .int .u64 b3] 24)).alloc (.cells #[.int .u64 0, .int .u64 0, .int .u64 0, .int .u64 0] 24)) = g2 at X1 ⊢
  go_cut [5] (fun sx wx => ∃ bk3 : Nat, sx = .pointer (some ⟨bk3, 0, none⟩) ∧ w.heap.size + 1 + 1 < bk3 ∧ w.heap.size + 1 < bk3 ∧ w.heap.size < bk3 ∧ Bx w [(bk3, q0, q1, q2, q3), (w.heap.size + 1 + 1, 0, 0, 0, 0), (w.heap.size + 1, b0, b1, b2, b3), (w.heap.size, a0, a1, a2, a3)] wx)
  case first =>
    refine wp_region_held_drew (S := fun w' => Bx w [(w.heap.size + 1 + 1, 0, 0, 0, 0), (w.heap.size + 1, b0, b1, b2, b3), (w.heap.size, a0, a1, a2, a3)] w') (by kernel_rfl) X1.out.drew (fun hHeld => ?_)
    generalize g2.drew = g4 at hHeld ⊢
    refine wpAnyH_take (i := 0) (v := .agg #[.int .u64 a0, .int .u64 a1, .int .u64 a2, .int .u64 a3]) op0 (by kernel_rfl) (by kernel_rfl) (by kernel_rfl) (fun _ _ _ h => h) (Or.inl ⟨by rfl, fun W hS => ?_⟩) hHeld ?_
    · obtain ⟨c0, c1, c2, c3, _⟩ := hS.f0 mm2
      go_simp
    simp only [Act.put, List.setIfInBounds_toArray, List.set_cons_zero, List.set_cons_succ]
    refine wpAnyH_take (i := 2) (v := .agg #[.int .u64 b0, .int .u64 b1, .int .u64 b2, .int .u64 b3]) op2 (by kernel_rfl) (by kernel_rfl) (by kernel_rfl) (fun _ _ _ h => h) (Or.inl ⟨by rfl, fun W hS => ?_⟩) hHeld ?_
    · obtain ⟨c0, c1, c2, c3, _⟩ := hS.f0 mm1
      go_simp
    simp only [Act.put, List.setIfInBounds_toArray, List.set_cons_zero, List.set_cons_succ]
    refine wpAnyH_ready (rs := [1, 5]) (by kernel_rfl) (by simp) ?_
    refine AllReadyH.cons op1 (fun K hK => ?_) (AllReadyH.cons op5 (fun K hK => ?_) AllReadyH.nil)
    · rw [if_pos (by rfl)]
      go_simp
      refine (HMA.out _).mono ?_
      rintro e g6 ⟨rfl, hB⟩
      have x7 := hHeld.past hB
      clear hB hHeld
      (try go_wp2_with fail)
      refine hK.out _ _ x7 (fun _ => ?_)
      clear hK K
      refine wpAnyH_ready (rs := [3, 5]) (by kernel_rfl) (by simp) ?_
      refine AllReadyH.cons op3 (fun K hK => ?_) (AllReadyH.cons op5 (fun K hK => ?_) AllReadyH.nil)
      · rw [if_pos (by rfl)]
        go_simp
        refine (HMB.out _).mono ?_
        rintro e g8 ⟨rfl, hB⟩
        have x9 := x7.past hB
        clear hB x7
        (try go_wp2_with fail)
        refine hK.out _ _ x9 (fun _ => ?_)
        clear hK K
        refine wpAnyH_ready (rs := [4, 5]) (by kernel_rfl) (by simp) ?_
        refine AllReadyH.cons op4 (fun K hK => ?_) (AllReadyH.cons op5 (fun K hK => ?_) AllReadyH.nil)
        · rw [if_pos (by rfl)]
          go_simp
          refine (HDI.out _).mono ?_
          rintro e g10 ⟨rfl, hB⟩
          have x11 := x9.past hB
          clear hB x9
          (try go_wp2_with fail)
          refine hK.out _ _ x11 (fun _ => ?_)
          clear hK K
          refine wpAnyH_ready (rs := [5]) (by kernel_rfl) (by simp) ?_
          refine AllReadyH.cons op5 (fun K hK => ?_) AllReadyH.nil
          rw [if_pos (by rfl)]
          go_simp
          have x13 : Bx w ((g10.heap.size, 0, 0, 0, 0) :: [(w.heap.size + 1 + 1, 0, 0, 0, 0), (w.heap.size + 1, b0, b1, b2, b3), (w.heap.size, a0, a1, a2, a3)]) (g10.alloc (.cells #[.int .u64 0, .int .u64 0, .int .u64 0, .int .u64 0] 24)) := x11.alloc 0 0 0 0
          have lbb5_0 : w.heap.size + 1 + 1 < g10.heap.size := x11.lt _ mm0
          have lbb5_1 : w.heap.size + 1 < g10.heap.size := x11.lt _ mm1
          have lbb5_2 : w.heap.size < g10.heap.size := x11.lt _ mm2
          refine hK.out _ _ (Bx.sub x13 (fun p hp => List.Mem.tail _ hp)) (fun _ => ?_)
          clear hK K x11
          generalize g10.alloc (.cells #[.int .u64 0, .int .u64 0, .int .u64 0, .int .u64 0] 24) = g12 at x13 ⊢
          generalize g10.heap.size = bb5 at x13 lbb5_0 lbb5_1 lbb5_2 ⊢
          refine wpAnyH_ready (rs := [6]) (by kernel_rfl) (by simp) ?_
          refine AllReadyH.cons op6 (fun K hK => ?_) AllReadyH.nil
          rw [if_pos (by rfl)]
          obtain ⟨c0, c1, c2, c3, f0, f1, f2, f3⟩ := x13.f0 mm0
          go_simp
          have x15 : Bx w ((bb5, q0, q1, q2, q3) :: [(w.heap.size + 1 + 1, 0, 0, 0, 0), (w.heap.size + 1, b0, b1, b2, b3), (w.heap.size, a0, a1, a2, a3)]) ((((g12.setCell ⟨bb5, 0, none⟩ (.int .u64 q0)).setCell ⟨bb5, 1, none⟩ (.int .u64 q1)).setCell ⟨bb5, 2, none⟩ (.int .u64 q2)).setCell ⟨bb5, 3, none⟩ (.int .u64 q3)) := Bx.put x13 (by intro p hp; simp only [List.mem_cons, List.not_mem_nil, or_false] at hp; rcases hp with rfl | rfl | rfl <;> simp <;> omega) q0 q1 q2 q3
          refine hK.out _ _ (Bx.sub x15 (fun p hp => List.Mem.tail _ hp)) (fun _ => ?_)
          clear hK K c0 c1 c2 c3 f0 f1 f2 f3 x13
          generalize ((((g12.setCell ⟨bb5, 0, none⟩ (.int .u64 q0)).setCell ⟨bb5, 1, none⟩ (.int .u64 q1)).setCell ⟨bb5, 2, none⟩ (.int .u64 q2)).setCell ⟨bb5, 3, none⟩ (.int .u64 q3)) = g14 at x15 ⊢
          (try simp only [Act.put])
          refine wpAnyH_done (by kernel_rfl) ?_ _
          go_wp2
          go_meet
          case rel => exact ⟨bb5, rfl, lbb5_0, lbb5_1, lbb5_2, x15⟩
        · rw [if_pos (by rfl)]
          go_simp
          have x17 : Bx w ((g8.heap.size, 0, 0, 0, 0) :: [(w.heap.size + 1 + 1, 0, 0, 0, 0), (w.heap.size + 1, b0, b1, b2, b3), (w.heap.size, a0, a1, a2, a3)]) (g8.alloc (.cells #[.int .u64 0, .int .u64 0, .int .u64 0, .int .u64 0] 24)) := x9.alloc 0 0 0 0
          have lbb5_0 : w.heap.size + 1 + 1 < g8.heap.size := x9.lt _ mm0
          have lbb5_1 : w.heap.size + 1 < g8.heap.size := x9.lt _ mm1
          have lbb5_2 : w.heap.size < g8.heap.size := x9.lt _ mm2
          refine hK.out _ _ (Bx.sub x17 (fun p hp => List.Mem.tail _ hp)) (fun _ => ?_)
          clear hK K x9
          generalize g8.alloc (.cells #[.int .u64 0, .int .u64 0, .int .u64 0, .int .u64 0] 24) = g16 at x17 ⊢
          generalize g8.heap.size = bb5 at x17 lbb5_0 lbb5_1 lbb5_2 ⊢
          refine wpAnyH_ready (rs := [4]) (by kernel_rfl) (by simp) ?_
          refine AllReadyH.cons op4 (fun K hK => ?_) AllReadyH.nil
          rw [if_pos (by rfl)]
          go_simp
          refine (HDI.out _).mono ?_
          rintro e g18 ⟨rfl, hB⟩
          have x19 := x17.past hB
          clear hB x17
          (try go_wp2_with fail)
          refine hK.out _ _ (Bx.sub x19 (fun p hp => List.Mem.tail _ hp)) (fun _ => ?_)
          clear hK K
          refine wpAnyH_ready (rs := [6]) (by kernel_rfl) (by simp) ?_
          refine AllReadyH.cons op6 (fun K hK => ?_) AllReadyH.nil
          rw [if_pos (by rfl)]
          obtain ⟨c0, c1, c2, c3, f0, f1, f2, f3⟩ := x19.f0 mm0
          go_simp
          have x21 : Bx w ((bb5, q0, q1, q2, q3) :: [(w.heap.size + 1 + 1, 0, 0, 0, 0), (w.heap.size + 1, b0, b1, b2, b3), (w.heap.size, a0, a1, a2, a3)]) ((((g18.setCell ⟨bb5, 0, none⟩ (.int .u64 q0)).setCell ⟨bb5, 1, none⟩ (.int .u64 q1)).setCell ⟨bb5, 2, none⟩ (.int .u64 q2)).setCell ⟨bb5, 3, none⟩ (.int .u64 q3)) := Bx.put x19 (by intro p hp; simp only [List.mem_cons, List.not_mem_nil, or_false] at hp; rcases hp with rfl | rfl | rfl <;> simp <;> omega) q0 q1 q2 q3
          refine hK.out _ _ (Bx.sub x21 (fun p hp => List.Mem.tail _ hp)) (fun _ => ?_)
          clear hK K c0 c1 c2 c3 f0 f1 f2 f3 x19
          generalize ((((g18.setCell ⟨bb5, 0, none⟩ (.int .u64 q0)).setCell ⟨bb5, 1, none⟩ (.int .u64 q1)).setCell ⟨bb5, 2, none⟩ (.int .u64 q2)).setCell ⟨bb5, 3, none⟩ (.int .u64 q3)) = g20 at x21 ⊢
          (try simp only [Act.put])
          refine wpAnyH_done (by kernel_rfl) ?_ _
          go_wp2
          go_meet
          case rel => exact ⟨bb5, rfl, lbb5_0, lbb5_1, lbb5_2, x21⟩
      · rw [if_pos (by rfl)]
        go_simp
        have x23 : Bx w ((g6.heap.size, 0, 0, 0, 0) :: [(w.heap.size + 1 + 1, 0, 0, 0, 0), (w.heap.size + 1, b0, b1, b2, b3), (w.heap.size, a0, a1, a2, a3)]) (g6.alloc (.cells #[.int .u64 0, .int .u64 0, .int .u64 0, .int .u64 0] 24)) := x7.alloc 0 0 0 0
        have lbb5_0 : w.heap.size + 1 + 1 < g6.heap.size := x7.lt _ mm0
        have lbb5_1 : w.heap.size + 1 < g6.heap.size := x7.lt _ mm1
        have lbb5_2 : w.heap.size < g6.heap.size := x7.lt _ mm2
        refine hK.out _ _ (Bx.sub x23 (fun p hp => List.Mem.tail _ hp)) (fun _ => ?_)
        clear hK K x7
        generalize g6.alloc (.cells #[.int .u64 0, .int .u64 0, .int .u64 0, .int .u64 0] 24) = g22 at x23 ⊢
        generalize g6.heap.size = bb5 at x23 lbb5_0 lbb5_1 lbb5_2 ⊢
        refine wpAnyH_ready (rs := [3]) (by kernel_rfl) (by simp) ?_
        refine AllReadyH.cons op3 (fun K hK => ?_) AllReadyH.nil
        rw [if_pos (by rfl)]
        go_simp
        refine (HMB.out _).mono ?_
        rintro e g24 ⟨rfl, hB⟩
        have x25 := x23.past hB
        clear hB x23
        (try go_wp2_with fail)
        refine hK.out _ _ (Bx.sub x25 (fun p hp => List.Mem.tail _ hp)) (fun _ => ?_)
        clear hK K
        refine wpAnyH_ready (rs := [4]) (by kernel_rfl) (by simp) ?_
        refine AllReadyH.cons op4 (fun K hK => ?_) AllReadyH.nil
        rw [if_pos (by rfl)]
        go_simp
        refine (HDI.out _).mono ?_
        rintro e g26 ⟨rfl, hB⟩
        have x27 := x25.past hB
        clear hB x25
        (try go_wp2_with fail)
        refine hK.out _ _ (Bx.sub x27 (fun p hp => List.Mem.tail _ hp)) (fun _ => ?_)
        clear hK K
        refine wpAnyH_ready (rs := [6]) (by kernel_rfl) (by simp) ?_
        refine AllReadyH.cons op6 (fun K hK => ?_) AllReadyH.nil
        rw [if_pos (by rfl)]
        obtain ⟨c0, c1, c2, c3, f0, f1, f2, f3⟩ := x27.f0 mm0
        go_simp
        have x29 : Bx w ((bb5, q0, q1, q2, q3) :: [(w.heap.size + 1 + 1, 0, 0, 0, 0), (w.heap.size + 1, b0, b1, b2, b3), (w.heap.size, a0, a1, a2, a3)]) ((((g26.setCell ⟨bb5, 0, none⟩ (.int .u64 q0)).setCell ⟨bb5, 1, none⟩ (.int .u64 q1)).setCell ⟨bb5, 2, none⟩ (.int .u64 q2)).setCell ⟨bb5, 3, none⟩ (.int .u64 q3)) := Bx.put x27 (by intro p hp; simp only [List.mem_cons, List.not_mem_nil, or_false] at hp; rcases hp with rfl | rfl | rfl <;> simp <;> omega) q0 q1 q2 q3
        refine hK.out _ _ (Bx.sub x29 (fun p hp => List.Mem.tail _ hp)) (fun _ => ?_)
        clear hK K c0 c1 c2 c3 f0 f1 f2 f3 x27
        generalize ((((g26.setCell ⟨bb5, 0, none⟩ (.int .u64 q0)).setCell ⟨bb5, 1, none⟩ (.int .u64 q1)).setCell ⟨bb5, 2, none⟩ (.int .u64 q2)).setCell ⟨bb5, 3, none⟩ (.int .u64 q3)) = g28 at x29 ⊢
        (try simp only [Act.put])
        refine wpAnyH_done (by kernel_rfl) ?_ _
        go_wp2
        go_meet
        case rel => exact ⟨bb5, rfl, lbb5_0, lbb5_1, lbb5_2, x29⟩
    · rw [if_pos (by rfl)]
      go_simp
      have x31 : Bx w ((g4.heap.size, 0, 0, 0, 0) :: [(w.heap.size + 1 + 1, 0, 0, 0, 0), (w.heap.size + 1, b0, b1, b2, b3), (w.heap.size, a0, a1, a2, a3)]) (g4.alloc (.cells #[.int .u64 0, .int .u64 0, .int .u64 0, .int .u64 0] 24)) := hHeld.alloc 0 0 0 0
      have lbb5_0 : w.heap.size + 1 + 1 < g4.heap.size := hHeld.lt _ mm0
      have lbb5_1 : w.heap.size + 1 < g4.heap.size := hHeld.lt _ mm1
      have lbb5_2 : w.heap.size < g4.heap.size := hHeld.lt _ mm2
      refine hK.out _ _ (Bx.sub x31 (fun p hp => List.Mem.tail _ hp)) (fun _ => ?_)
      clear hK K hHeld
      generalize g4.alloc (.cells #[.int .u64 0, .int .u64 0, .int .u64 0, .int .u64 0] 24) = g30 at x31 ⊢
      generalize g4.heap.size = bb5 at x31 lbb5_0 lbb5_1 lbb5_2 ⊢
      refine wpAnyH_ready (rs := [1]) (by kernel_rfl) (by simp) ?_
      refine AllReadyH.cons op1 (fun K hK => ?_) AllReadyH.nil
      rw [if_pos (by rfl)]
      go_simp
      refine (HMA.out _).mono ?_
      rintro e g32 ⟨rfl, hB⟩
      have x33 := x31.past hB
      clear hB x31
      (try go_wp2_with fail)
      refine hK.out _ _ (Bx.sub x33 (fun p hp => List.Mem.tail _ hp)) (fun _ => ?_)
      clear hK K
      refine wpAnyH_ready (rs := [3]) (by kernel_rfl) (by simp) ?_
      refine AllReadyH.cons op3 (fun K hK => ?_) AllReadyH.nil
      rw [if_pos (by rfl)]
      go_simp
      refine (HMB.out _).mono ?_
      rintro e g34 ⟨rfl, hB⟩
      have x35 := x33.past hB
      clear hB x33
      (try go_wp2_with fail)
      refine hK.out _ _ (Bx.sub x35 (fun p hp => List.Mem.tail _ hp)) (fun _ => ?_)
      clear hK K
      refine wpAnyH_ready (rs := [4]) (by kernel_rfl) (by simp) ?_
      refine AllReadyH.cons op4 (fun K hK => ?_) AllReadyH.nil
      rw [if_pos (by rfl)]
      go_simp
      refine (HDI.out _).mono ?_
      rintro e g36 ⟨rfl, hB⟩
      have x37 := x35.past hB
      clear hB x35
      (try go_wp2_with fail)
      refine hK.out _ _ (Bx.sub x37 (fun p hp => List.Mem.tail _ hp)) (fun _ => ?_)
      clear hK K
      refine wpAnyH_ready (rs := [6]) (by kernel_rfl) (by simp) ?_
      refine AllReadyH.cons op6 (fun K hK => ?_) AllReadyH.nil
      rw [if_pos (by rfl)]
      obtain ⟨c0, c1, c2, c3, f0, f1, f2, f3⟩ := x37.f0 mm0
      go_simp
      have x39 : Bx w ((bb5, q0, q1, q2, q3) :: [(w.heap.size + 1 + 1, 0, 0, 0, 0), (w.heap.size + 1, b0, b1, b2, b3), (w.heap.size, a0, a1, a2, a3)]) ((((g36.setCell ⟨bb5, 0, none⟩ (.int .u64 q0)).setCell ⟨bb5, 1, none⟩ (.int .u64 q1)).setCell ⟨bb5, 2, none⟩ (.int .u64 q2)).setCell ⟨bb5, 3, none⟩ (.int .u64 q3)) := Bx.put x37 (by intro p hp; simp only [List.mem_cons, List.not_mem_nil, or_false] at hp; rcases hp with rfl | rfl | rfl <;> simp <;> omega) q0 q1 q2 q3
      refine hK.out _ _ (Bx.sub x39 (fun p hp => List.Mem.tail _ hp)) (fun _ => ?_)
      clear hK K c0 c1 c2 c3 f0 f1 f2 f3 x37
      generalize ((((g36.setCell ⟨bb5, 0, none⟩ (.int .u64 q0)).setCell ⟨bb5, 1, none⟩ (.int .u64 q1)).setCell ⟨bb5, 2, none⟩ (.int .u64 q2)).setCell ⟨bb5, 3, none⟩ (.int .u64 q3)) = g38 at x39 ⊢
      (try simp only [Act.put])
      refine wpAnyH_done (by kernel_rfl) ?_ _
      go_wp2
      go_meet
      case rel => exact ⟨bb5, rfl, lbb5_0, lbb5_1, lbb5_2, x39⟩
  case rest =>
    obtain ⟨bk3, rfl, lbk3_0, lbk3_1, lbk3_2, hX⟩ := hcut
    have X40 : Hid (Bx w [(bk3, q0, q1, q2, q3), (w.heap.size + 1 + 1, 0, 0, 0, 0), (w.heap.size + 1, b0, b1, b2, b3), (w.heap.size, a0, a1, a2, a3)] wc) := hX
    generalize wc = g41 at hX X40 ⊢
    clear hX X1
    go_upto_region 2 with fail
    refine wp_region_held_drew (S := fun w' => Bx w [(bk3, q0, q1, q2, q3), (w.heap.size + 1 + 1, 0, 0, 0, 0), (w.heap.size + 1, b0, b1, b2, b3), (w.heap.size, a0, a1, a2, a3)] w') (by kernel_rfl) X40.out.drew (fun hHeld => ?_)
    generalize g41.drew = g42 at hHeld ⊢
    clear X40
    refine wpAnyH_take (i := 0) (v := .agg #[.int .u64 a0, .int .u64 a1, .int .u64 a2, .int .u64 a3]) op0 (by kernel_rfl) (by kernel_rfl) (by kernel_rfl) (fun _ _ _ h => h) (Or.inl ⟨by rfl, fun W hS => ?_⟩) hHeld ?_
    · obtain ⟨c0, c1, c2, c3, _⟩ := hS.f0 mm3
      go_simp
    simp only [Act.put, List.setIfInBounds_toArray, List.set_cons_zero, List.set_cons_succ]
    refine wpAnyH_take (i := 2) (v := .agg #[.int .u64 b0, .int .u64 b1, .int .u64 b2, .int .u64 b3]) op2 (by kernel_rfl) (by kernel_rfl) (by kernel_rfl) (fun _ _ _ h => h) (Or.inl ⟨by rfl, fun W hS => ?_⟩) hHeld ?_
    · obtain ⟨c0, c1, c2, c3, _⟩ := hS.f0 mm2
      go_simp
    simp only [Act.put, List.setIfInBounds_toArray, List.set_cons_zero, List.set_cons_succ]
    refine wpAnyH_ready (rs := [1]) (by kernel_rfl) (by simp) ?_
    refine AllReadyH.cons op1 (fun K hK => ?_) AllReadyH.nil
    rw [if_pos (by rfl)]
    go_simp
    refine (HNA.out _).mono ?_
    rintro e g43 ⟨rfl, hB⟩
    have x44 := hHeld.past hB
    clear hB hHeld
    (try go_wp2_with fail)
    refine hK.out _ _ x44 (fun _ => ?_)
    clear hK K
    refine wpAnyH_ready (rs := [3]) (by kernel_rfl) (by simp) ?_
    refine AllReadyH.cons op3 (fun K hK => ?_) AllReadyH.nil
    rw [if_pos (by rfl)]
    go_simp
    refine (HNB.out _).mono ?_
    rintro e g45 ⟨rfl, hB⟩
    have x46 := x44.past hB
    clear hB x44
    (try go_wp2_with fail)
    refine hK.out _ _ x46 (fun _ => ?_)
    clear hK K
    refine wpAnyH_take (i := 4) (v := .bool false) op4 (by kernel_rfl) (by kernel_rfl) (by kernel_rfl) (fun _ _ _ h => h) (Or.inl ⟨by rfl, fun W hS => ?_⟩) x46 ?_
    · go_simp
    simp only [Act.put, List.setIfInBounds_toArray, List.set_cons_zero, List.set_cons_succ]
    refine wpAnyH_done (by kernel_rfl) ?_ _
    have X47 : Hid (Bx w [(bk3, q0, q1, q2, q3), (w.heap.size + 1 + 1, 0, 0, 0, 0), (w.heap.size + 1, b0, b1, b2, b3), (w.heap.size, a0, a1, a2, a3)] g45) := x46
    clear x46
    go_upto_region 4 with fail
    obtain ⟨k48_0_0, k48_0_1, k48_0_2, k48_0_3, k48_0_4, k48_0_5, k48_0_6, k48_0_7⟩ := X47.out.f0 mm0
    obtain ⟨k48_1_0, k48_1_1, k48_1_2, k48_1_3, k48_1_4, k48_1_5, k48_1_6, k48_1_7⟩ := X47.out.f0 mm1
    go_wp2
    clear k48_0_0 k48_0_1 k48_0_2 k48_0_3 k48_0_4 k48_0_5 k48_0_6 k48_0_7 k48_1_0 k48_1_1 k48_1_2 k48_1_3 k48_1_4 k48_1_5 k48_1_6 k48_1_7
    have X49 : Hid (Bx w ((w.heap.size + 1 + 1, q0, q1, q2, q3) :: [(bk3, q0, q1, q2, q3), (w.heap.size + 1, b0, b1, b2, b3), (w.heap.size, a0, a1, a2, a3)]) ((((g45.setCell ⟨w.heap.size + 1 + 1, 0, none⟩ (.int .u64 q0)).setCell ⟨w.heap.size + 1 + 1, 1, none⟩ (.int .u64 q1)).setCell ⟨w.heap.size + 1 + 1, 2, none⟩ (.int .u64 q2)).setCell ⟨w.heap.size + 1 + 1, 3, none⟩ (.int .u64 q3))) := Bx.put (Bx.sub X47.out (l := [(bk3, q0, q1, q2, q3), (w.heap.size + 1 + 1, 0, 0, 0, 0), (w.heap.size + 1, b0, b1, b2, b3), (w.heap.size, a0, a1, a2, a3)]) (m := [(w.heap.size + 1 + 1, 0, 0, 0, 0), (bk3, q0, q1, q2, q3), (w.heap.size + 1, b0, b1, b2, b3), (w.heap.size, a0, a1, a2, a3)]) (by intro p hp; simp only [List.mem_cons, List.not_mem_nil, or_false] at hp ⊢; rcases hp with rfl | rfl | rfl | rfl <;> simp)) (by intro p hp; simp only [List.mem_cons, List.not_mem_nil, or_false] at hp; rcases hp with rfl | rfl | rfl <;> simp <;> omega) q0 q1 q2 q3
    generalize ((((g45.setCell ⟨w.heap.size + 1 + 1, 0, none⟩ (.int .u64 q0)).setCell ⟨w.heap.size + 1 + 1, 1, none⟩ (.int .u64 q1)).setCell ⟨w.heap.size + 1 + 1, 2, none⟩ (.int .u64 q2)).setCell ⟨w.heap.size + 1 + 1, 3, none⟩ (.int .u64 q3)) = g50 at X49 ⊢
    clear X47
    refine bodyPost_ret (v := .agg #[.int .u64 q0, .int .u64 q1, .int .u64 q2, .int .u64 q3]) ?_ rfl ⟨rfl, X49.out.bel⟩
    exact results_c Tryz.results22 _ _ _ ⟨w.heap.size + 1 + 1, 0, none⟩ rfl (loadVar4 (X49.out.box _ mm0))
set_option maxHeartbeats 4000000 in
set_option maxRecDepth 100000 in
theorem smod_1 (a0 a1 a2 a3 b0 b1 b2 b3 u0 u1 u2 u3 v0 v1 v2 v3 q0 q1 q2 q3 z0 z1 z2 z3 : Int) (MA : ∀ w : World, Calls Tryz.prog 90 #[.agg #[.int .u64 a0, .int .u64 a1, .int .u64 a2, .int .u64 a3]] w fun e w' => e = .returned (.agg #[.int .u64 u0, .int .u64 u1, .int .u64 u2, .int .u64 u3]) ∧ Below w.heap.size w w') (MB : ∀ w : World, Calls Tryz.prog 90 #[.agg #[.int .u64 b0, .int .u64 b1, .int .u64 b2, .int .u64 b3]] w fun e w' => e = .returned (.agg #[.int .u64 v0, .int .u64 v1, .int .u64 v2, .int .u64 v3]) ∧ Below w.heap.size w w') (MO : ∀ w : World, Calls Tryz.prog 19 #[.agg #[.int .u64 u0, .int .u64 u1, .int .u64 u2, .int .u64 u3], .agg #[.int .u64 v0, .int .u64 v1, .int .u64 v2, .int .u64 v3]] w fun e w' => e = .returned (.agg #[.int .u64 q0, .int .u64 q1, .int .u64 q2, .int .u64 q3]) ∧ Below w.heap.size w w') (NA : ∀ w : World, Calls Tryz.prog 91 #[.agg #[.int .u64 a0, .int .u64 a1, .int .u64 a2, .int .u64 a3]] w fun e w' => e = .returned (.bool true) ∧ Below w.heap.size w w') (NG : ∀ w : World, Calls Tryz.prog 92 #[.agg #[.int .u64 q0, .int .u64 q1, .int .u64 q2, .int .u64 q3]] w fun e w' => e = .returned (.agg #[.int .u64 z0, .int .u64 z1, .int .u64 z2, .int .u64 z3]) ∧ Below w.heap.size w w') (w : World) :
    Calls Tryz.prog 24 #[.agg #[.int .u64 a0, .int .u64 a1, .int .u64 a2, .int .u64 a3], .agg #[.int .u64 b0, .int .u64 b1, .int .u64 b2, .int .u64 b3]] w fun e w' => e = .returned (.agg #[.int .u64 z0, .int .u64 z1, .int .u64 z2, .int .u64 z3]) ∧ Below w.heap.size w w' := by
  have HMA : Hid _ := MA
  have HMB : Hid _ := MB
  have HMO : Hid _ := MO
  have HNA : Hid _ := NA
  have HNG : Hid _ := NG
  clear MA MB MO NA NG
  go_enter Tryz.func24, Tryz.ntmps24
  go_upto_region 1 with fail
  have X1 : Hid (Bx w [(w.heap.size + 1 + 1, 0, 0, 0, 0), (w.heap.size + 1, b0, b1, b2, b3), (w.heap.size, a0, a1, a2, a3)] (((w.alloc (.cells #[.int .u64 a0, .int .u64 a1, .int .u64 a2, .int .u64 a3] 24)).alloc (.cells #[.int .u64 b0, .int .u64 b1, .int .u64 b2, .int .u64 b3] 24)).alloc (.cells #[.int .u64 0, .int .u64 0, .int .u64 0, .int .u64 0] 24))) := by
    have h := (((Bx.start w).alloc a0 a1 a2 a3).alloc b0 b1 b2 b3).alloc 0 0 0 0
    (try simp only [World.size_alloc] at h)
    exact h
  generalize (((w.alloc (.cells #[.int .u64 a0, .int .u64 a1, .int .u64 a2, .int .u64 a3] 24)).alloc (.cells #[.int .u64 b0, .int .u64 b1, .int .u64 b2, .int .u64 b3] 24)).alloc (.cells #[.int .u64 0, .int .u64 0, .int .u64 0, .int .u64 0] 24)) = g2 at X1 ⊢
  go_cut [5] (fun sx wx => ∃ bk3 : Nat, sx = .pointer (some ⟨bk3, 0, none⟩) ∧ w.heap.size + 1 + 1 < bk3 ∧ w.heap.size + 1 < bk3 ∧ w.heap.size < bk3 ∧ Bx w [(bk3, q0, q1, q2, q3), (w.heap.size + 1 + 1, 0, 0, 0, 0), (w.heap.size + 1, b0, b1, b2, b3), (w.heap.size, a0, a1, a2, a3)] wx)
  case first =>
    refine wp_region_held_drew (S := fun w' => Bx w [(w.heap.size + 1 + 1, 0, 0, 0, 0), (w.heap.size + 1, b0, b1, b2, b3), (w.heap.size, a0, a1, a2, a3)] w') (by kernel_rfl) X1.out.drew (fun hHeld => ?_)
    generalize g2.drew = g4 at hHeld ⊢
    refine wpAnyH_take (i := 0) (v := .agg #[.int .u64 a0, .int .u64 a1, .int .u64 a2, .int .u64 a3]) op0 (by kernel_rfl) (by kernel_rfl) (by kernel_rfl) (fun _ _ _ h => h) (Or.inl ⟨by rfl, fun W hS => ?_⟩) hHeld ?_
    · obtain ⟨c0, c1, c2, c3, _⟩ := hS.f0 mm2
      go_simp
    simp only [Act.put, List.setIfInBounds_toArray, List.set_cons_zero, List.set_cons_succ]
    refine wpAnyH_take (i := 2) (v := .agg #[.int .u64 b0, .int .u64 b1, .int .u64 b2, .int .u64 b3]) op2 (by kernel_rfl) (by kernel_rfl) (by kernel_rfl) (fun _ _ _ h => h) (Or.inl ⟨by rfl, fun W hS => ?_⟩) hHeld ?_
    · obtain ⟨c0, c1, c2, c3, _⟩ := hS.f0 mm1
      go_simp
    simp only [Act.put, List.setIfInBounds_toArray, List.set_cons_zero, List.set_cons_succ]
    refine wpAnyH_ready (rs := [1, 5]) (by kernel_rfl) (by simp) ?_
    refine AllReadyH.cons op1 (fun K hK => ?_) (AllReadyH.cons op5 (fun K hK => ?_) AllReadyH.nil)
    · rw [if_pos (by rfl)]
      go_simp
      refine (HMA.out _).mono ?_
      rintro e g6 ⟨rfl, hB⟩
      have x7 := hHeld.past hB
      clear hB hHeld
      (try go_wp2_with fail)
      refine hK.out _ _ x7 (fun _ => ?_)
      clear hK K
      refine wpAnyH_ready (rs := [3, 5]) (by kernel_rfl) (by simp) ?_
      refine AllReadyH.cons op3 (fun K hK => ?_) (AllReadyH.cons op5 (fun K hK => ?_) AllReadyH.nil)
      · rw [if_pos (by rfl)]
        go_simp
        refine (HMB.out _).mono ?_
        rintro e g8 ⟨rfl, hB⟩
        have x9 := x7.past hB
        clear hB x7
        (try go_wp2_with fail)
        refine hK.out _ _ x9 (fun _ => ?_)
        clear hK K
        refine wpAnyH_ready (rs := [4, 5]) (by kernel_rfl) (by simp) ?_
        refine AllReadyH.cons op4 (fun K hK => ?_) (AllReadyH.cons op5 (fun K hK => ?_) AllReadyH.nil)
        · rw [if_pos (by rfl)]
          go_simp
          refine (HMO.out _).mono ?_
          rintro e g10 ⟨rfl, hB⟩
          have x11 := x9.past hB
          clear hB x9
          (try go_wp2_with fail)
          refine hK.out _ _ x11 (fun _ => ?_)
          clear hK K
          refine wpAnyH_ready (rs := [5]) (by kernel_rfl) (by simp) ?_
          refine AllReadyH.cons op5 (fun K hK => ?_) AllReadyH.nil
          rw [if_pos (by rfl)]
          go_simp
          have x13 : Bx w ((g10.heap.size, 0, 0, 0, 0) :: [(w.heap.size + 1 + 1, 0, 0, 0, 0), (w.heap.size + 1, b0, b1, b2, b3), (w.heap.size, a0, a1, a2, a3)]) (g10.alloc (.cells #[.int .u64 0, .int .u64 0, .int .u64 0, .int .u64 0] 24)) := x11.alloc 0 0 0 0
          have lbb5_0 : w.heap.size + 1 + 1 < g10.heap.size := x11.lt _ mm0
          have lbb5_1 : w.heap.size + 1 < g10.heap.size := x11.lt _ mm1
          have lbb5_2 : w.heap.size < g10.heap.size := x11.lt _ mm2
          refine hK.out _ _ (Bx.sub x13 (fun p hp => List.Mem.tail _ hp)) (fun _ => ?_)
          clear hK K x11
          generalize g10.alloc (.cells #[.int .u64 0, .int .u64 0, .int .u64 0, .int .u64 0] 24) = g12 at x13 ⊢
          generalize g10.heap.size = bb5 at x13 lbb5_0 lbb5_1 lbb5_2 ⊢
          refine wpAnyH_ready (rs := [6]) (by kernel_rfl) (by simp) ?_
          refine AllReadyH.cons op6 (fun K hK => ?_) AllReadyH.nil
          rw [if_pos (by rfl)]
          obtain ⟨c0, c1, c2, c3, f0, f1, f2, f3⟩ := x13.f0 mm0
          go_simp
          have x15 : Bx w ((bb5, q0, q1, q2, q3) :: [(w.heap.size + 1 + 1, 0, 0, 0, 0), (w.heap.size + 1, b0, b1, b2, b3), (w.heap.size, a0, a1, a2, a3)]) ((((g12.setCell ⟨bb5, 0, none⟩ (.int .u64 q0)).setCell ⟨bb5, 1, none⟩ (.int .u64 q1)).setCell ⟨bb5, 2, none⟩ (.int .u64 q2)).setCell ⟨bb5, 3, none⟩ (.int .u64 q3)) := Bx.put x13 (by intro p hp; simp only [List.mem_cons, List.not_mem_nil, or_false] at hp; rcases hp with rfl | rfl | rfl <;> simp <;> omega) q0 q1 q2 q3
          refine hK.out _ _ (Bx.sub x15 (fun p hp => List.Mem.tail _ hp)) (fun _ => ?_)
          clear hK K c0 c1 c2 c3 f0 f1 f2 f3 x13
          generalize ((((g12.setCell ⟨bb5, 0, none⟩ (.int .u64 q0)).setCell ⟨bb5, 1, none⟩ (.int .u64 q1)).setCell ⟨bb5, 2, none⟩ (.int .u64 q2)).setCell ⟨bb5, 3, none⟩ (.int .u64 q3)) = g14 at x15 ⊢
          (try simp only [Act.put])
          refine wpAnyH_done (by kernel_rfl) ?_ _
          go_wp2
          go_meet
          case rel => exact ⟨bb5, rfl, lbb5_0, lbb5_1, lbb5_2, x15⟩
        · rw [if_pos (by rfl)]
          go_simp
          have x17 : Bx w ((g8.heap.size, 0, 0, 0, 0) :: [(w.heap.size + 1 + 1, 0, 0, 0, 0), (w.heap.size + 1, b0, b1, b2, b3), (w.heap.size, a0, a1, a2, a3)]) (g8.alloc (.cells #[.int .u64 0, .int .u64 0, .int .u64 0, .int .u64 0] 24)) := x9.alloc 0 0 0 0
          have lbb5_0 : w.heap.size + 1 + 1 < g8.heap.size := x9.lt _ mm0
          have lbb5_1 : w.heap.size + 1 < g8.heap.size := x9.lt _ mm1
          have lbb5_2 : w.heap.size < g8.heap.size := x9.lt _ mm2
          refine hK.out _ _ (Bx.sub x17 (fun p hp => List.Mem.tail _ hp)) (fun _ => ?_)
          clear hK K x9
          generalize g8.alloc (.cells #[.int .u64 0, .int .u64 0, .int .u64 0, .int .u64 0] 24) = g16 at x17 ⊢
          generalize g8.heap.size = bb5 at x17 lbb5_0 lbb5_1 lbb5_2 ⊢
          refine wpAnyH_ready (rs := [4]) (by kernel_rfl) (by simp) ?_
          refine AllReadyH.cons op4 (fun K hK => ?_) AllReadyH.nil
          rw [if_pos (by rfl)]
          go_simp
          refine (HMO.out _).mono ?_
          rintro e g18 ⟨rfl, hB⟩
          have x19 := x17.past hB
          clear hB x17
          (try go_wp2_with fail)
          refine hK.out _ _ (Bx.sub x19 (fun p hp => List.Mem.tail _ hp)) (fun _ => ?_)
          clear hK K
          refine wpAnyH_ready (rs := [6]) (by kernel_rfl) (by simp) ?_
          refine AllReadyH.cons op6 (fun K hK => ?_) AllReadyH.nil
          rw [if_pos (by rfl)]
          obtain ⟨c0, c1, c2, c3, f0, f1, f2, f3⟩ := x19.f0 mm0
          go_simp
          have x21 : Bx w ((bb5, q0, q1, q2, q3) :: [(w.heap.size + 1 + 1, 0, 0, 0, 0), (w.heap.size + 1, b0, b1, b2, b3), (w.heap.size, a0, a1, a2, a3)]) ((((g18.setCell ⟨bb5, 0, none⟩ (.int .u64 q0)).setCell ⟨bb5, 1, none⟩ (.int .u64 q1)).setCell ⟨bb5, 2, none⟩ (.int .u64 q2)).setCell ⟨bb5, 3, none⟩ (.int .u64 q3)) := Bx.put x19 (by intro p hp; simp only [List.mem_cons, List.not_mem_nil, or_false] at hp; rcases hp with rfl | rfl | rfl <;> simp <;> omega) q0 q1 q2 q3
          refine hK.out _ _ (Bx.sub x21 (fun p hp => List.Mem.tail _ hp)) (fun _ => ?_)
          clear hK K c0 c1 c2 c3 f0 f1 f2 f3 x19
          generalize ((((g18.setCell ⟨bb5, 0, none⟩ (.int .u64 q0)).setCell ⟨bb5, 1, none⟩ (.int .u64 q1)).setCell ⟨bb5, 2, none⟩ (.int .u64 q2)).setCell ⟨bb5, 3, none⟩ (.int .u64 q3)) = g20 at x21 ⊢
          (try simp only [Act.put])
          refine wpAnyH_done (by kernel_rfl) ?_ _
          go_wp2
          go_meet
          case rel => exact ⟨bb5, rfl, lbb5_0, lbb5_1, lbb5_2, x21⟩
      · rw [if_pos (by rfl)]
        go_simp
        have x23 : Bx w ((g6.heap.size, 0, 0, 0, 0) :: [(w.heap.size + 1 + 1, 0, 0, 0, 0), (w.heap.size + 1, b0, b1, b2, b3), (w.heap.size, a0, a1, a2, a3)]) (g6.alloc (.cells #[.int .u64 0, .int .u64 0, .int .u64 0, .int .u64 0] 24)) := x7.alloc 0 0 0 0
        have lbb5_0 : w.heap.size + 1 + 1 < g6.heap.size := x7.lt _ mm0
        have lbb5_1 : w.heap.size + 1 < g6.heap.size := x7.lt _ mm1
        have lbb5_2 : w.heap.size < g6.heap.size := x7.lt _ mm2
        refine hK.out _ _ (Bx.sub x23 (fun p hp => List.Mem.tail _ hp)) (fun _ => ?_)
        clear hK K x7
        generalize g6.alloc (.cells #[.int .u64 0, .int .u64 0, .int .u64 0, .int .u64 0] 24) = g22 at x23 ⊢
        generalize g6.heap.size = bb5 at x23 lbb5_0 lbb5_1 lbb5_2 ⊢
        refine wpAnyH_ready (rs := [3]) (by kernel_rfl) (by simp) ?_
        refine AllReadyH.cons op3 (fun K hK => ?_) AllReadyH.nil
        rw [if_pos (by rfl)]
        go_simp
        refine (HMB.out _).mono ?_
        rintro e g24 ⟨rfl, hB⟩
        have x25 := x23.past hB
        clear hB x23
        (try go_wp2_with fail)
        refine hK.out _ _ (Bx.sub x25 (fun p hp => List.Mem.tail _ hp)) (fun _ => ?_)
        clear hK K
        refine wpAnyH_ready (rs := [4]) (by kernel_rfl) (by simp) ?_
        refine AllReadyH.cons op4 (fun K hK => ?_) AllReadyH.nil
        rw [if_pos (by rfl)]
        go_simp
        refine (HMO.out _).mono ?_
        rintro e g26 ⟨rfl, hB⟩
        have x27 := x25.past hB
        clear hB x25
        (try go_wp2_with fail)
        refine hK.out _ _ (Bx.sub x27 (fun p hp => List.Mem.tail _ hp)) (fun _ => ?_)
        clear hK K
        refine wpAnyH_ready (rs := [6]) (by kernel_rfl) (by simp) ?_
        refine AllReadyH.cons op6 (fun K hK => ?_) AllReadyH.nil
        rw [if_pos (by rfl)]
        obtain ⟨c0, c1, c2, c3, f0, f1, f2, f3⟩ := x27.f0 mm0
        go_simp
        have x29 : Bx w ((bb5, q0, q1, q2, q3) :: [(w.heap.size + 1 + 1, 0, 0, 0, 0), (w.heap.size + 1, b0, b1, b2, b3), (w.heap.size, a0, a1, a2, a3)]) ((((g26.setCell ⟨bb5, 0, none⟩ (.int .u64 q0)).setCell ⟨bb5, 1, none⟩ (.int .u64 q1)).setCell ⟨bb5, 2, none⟩ (.int .u64 q2)).setCell ⟨bb5, 3, none⟩ (.int .u64 q3)) := Bx.put x27 (by intro p hp; simp only [List.mem_cons, List.not_mem_nil, or_false] at hp; rcases hp with rfl | rfl | rfl <;> simp <;> omega) q0 q1 q2 q3
        refine hK.out _ _ (Bx.sub x29 (fun p hp => List.Mem.tail _ hp)) (fun _ => ?_)
        clear hK K c0 c1 c2 c3 f0 f1 f2 f3 x27
        generalize ((((g26.setCell ⟨bb5, 0, none⟩ (.int .u64 q0)).setCell ⟨bb5, 1, none⟩ (.int .u64 q1)).setCell ⟨bb5, 2, none⟩ (.int .u64 q2)).setCell ⟨bb5, 3, none⟩ (.int .u64 q3)) = g28 at x29 ⊢
        (try simp only [Act.put])
        refine wpAnyH_done (by kernel_rfl) ?_ _
        go_wp2
        go_meet
        case rel => exact ⟨bb5, rfl, lbb5_0, lbb5_1, lbb5_2, x29⟩
    · rw [if_pos (by rfl)]
      go_simp
      have x31 : Bx w ((g4.heap.size, 0, 0, 0, 0) :: [(w.heap.size + 1 + 1, 0, 0, 0, 0), (w.heap.size + 1, b0, b1, b2, b3), (w.heap.size, a0, a1, a2, a3)]) (g4.alloc (.cells #[.int .u64 0, .int .u64 0, .int .u64 0, .int .u64 0] 24)) := hHeld.alloc 0 0 0 0
      have lbb5_0 : w.heap.size + 1 + 1 < g4.heap.size := hHeld.lt _ mm0
      have lbb5_1 : w.heap.size + 1 < g4.heap.size := hHeld.lt _ mm1
      have lbb5_2 : w.heap.size < g4.heap.size := hHeld.lt _ mm2
      refine hK.out _ _ (Bx.sub x31 (fun p hp => List.Mem.tail _ hp)) (fun _ => ?_)
      clear hK K hHeld
      generalize g4.alloc (.cells #[.int .u64 0, .int .u64 0, .int .u64 0, .int .u64 0] 24) = g30 at x31 ⊢
      generalize g4.heap.size = bb5 at x31 lbb5_0 lbb5_1 lbb5_2 ⊢
      refine wpAnyH_ready (rs := [1]) (by kernel_rfl) (by simp) ?_
      refine AllReadyH.cons op1 (fun K hK => ?_) AllReadyH.nil
      rw [if_pos (by rfl)]
      go_simp
      refine (HMA.out _).mono ?_
      rintro e g32 ⟨rfl, hB⟩
      have x33 := x31.past hB
      clear hB x31
      (try go_wp2_with fail)
      refine hK.out _ _ (Bx.sub x33 (fun p hp => List.Mem.tail _ hp)) (fun _ => ?_)
      clear hK K
      refine wpAnyH_ready (rs := [3]) (by kernel_rfl) (by simp) ?_
      refine AllReadyH.cons op3 (fun K hK => ?_) AllReadyH.nil
      rw [if_pos (by rfl)]
      go_simp
      refine (HMB.out _).mono ?_
      rintro e g34 ⟨rfl, hB⟩
      have x35 := x33.past hB
      clear hB x33
      (try go_wp2_with fail)
      refine hK.out _ _ (Bx.sub x35 (fun p hp => List.Mem.tail _ hp)) (fun _ => ?_)
      clear hK K
      refine wpAnyH_ready (rs := [4]) (by kernel_rfl) (by simp) ?_
      refine AllReadyH.cons op4 (fun K hK => ?_) AllReadyH.nil
      rw [if_pos (by rfl)]
      go_simp
      refine (HMO.out _).mono ?_
      rintro e g36 ⟨rfl, hB⟩
      have x37 := x35.past hB
      clear hB x35
      (try go_wp2_with fail)
      refine hK.out _ _ (Bx.sub x37 (fun p hp => List.Mem.tail _ hp)) (fun _ => ?_)
      clear hK K
      refine wpAnyH_ready (rs := [6]) (by kernel_rfl) (by simp) ?_
      refine AllReadyH.cons op6 (fun K hK => ?_) AllReadyH.nil
      rw [if_pos (by rfl)]
      obtain ⟨c0, c1, c2, c3, f0, f1, f2, f3⟩ := x37.f0 mm0
      go_simp
      have x39 : Bx w ((bb5, q0, q1, q2, q3) :: [(w.heap.size + 1 + 1, 0, 0, 0, 0), (w.heap.size + 1, b0, b1, b2, b3), (w.heap.size, a0, a1, a2, a3)]) ((((g36.setCell ⟨bb5, 0, none⟩ (.int .u64 q0)).setCell ⟨bb5, 1, none⟩ (.int .u64 q1)).setCell ⟨bb5, 2, none⟩ (.int .u64 q2)).setCell ⟨bb5, 3, none⟩ (.int .u64 q3)) := Bx.put x37 (by intro p hp; simp only [List.mem_cons, List.not_mem_nil, or_false] at hp; rcases hp with rfl | rfl | rfl <;> simp <;> omega) q0 q1 q2 q3
      refine hK.out _ _ (Bx.sub x39 (fun p hp => List.Mem.tail _ hp)) (fun _ => ?_)
      clear hK K c0 c1 c2 c3 f0 f1 f2 f3 x37
      generalize ((((g36.setCell ⟨bb5, 0, none⟩ (.int .u64 q0)).setCell ⟨bb5, 1, none⟩ (.int .u64 q1)).setCell ⟨bb5, 2, none⟩ (.int .u64 q2)).setCell ⟨bb5, 3, none⟩ (.int .u64 q3)) = g38 at x39 ⊢
      (try simp only [Act.put])
      refine wpAnyH_done (by kernel_rfl) ?_ _
      go_wp2
      go_meet
      case rel => exact ⟨bb5, rfl, lbb5_0, lbb5_1, lbb5_2, x39⟩
  case rest =>
    obtain ⟨bk3, rfl, lbk3_0, lbk3_1, lbk3_2, hX⟩ := hcut
    have X40 : Hid (Bx w [(bk3, q0, q1, q2, q3), (w.heap.size + 1 + 1, 0, 0, 0, 0), (w.heap.size + 1, b0, b1, b2, b3), (w.heap.size, a0, a1, a2, a3)] wc) := hX
    generalize wc = g41 at hX X40 ⊢
    clear hX X1
    go_upto_region 2 with fail
    obtain ⟨k42_3_0, k42_3_1, k42_3_2, k42_3_3, k42_3_4, k42_3_5, k42_3_6, k42_3_7⟩ := X40.out.f0 mm3
    go_upto_region 3 with (first | (go_at_call 91; refine (HNA.out _).mono ?_; rintro e g44 ⟨rfl, hB⟩; (have X43 : Hid _ := X40.out.past hB); clear hB X40 k42_3_0 k42_3_1 k42_3_2 k42_3_3 k42_3_4 k42_3_5 k42_3_6 k42_3_7; obtain ⟨k45_3_0, k45_3_1, k45_3_2, k45_3_3, k45_3_4, k45_3_5, k45_3_6, k45_3_7⟩ := X43.out.f0 mm3))
    clear k45_3_0 k45_3_1 k45_3_2 k45_3_3 k45_3_4 k45_3_5 k45_3_6 k45_3_7
    obtain ⟨k46_0_0, k46_0_1, k46_0_2, k46_0_3, k46_0_4, k46_0_5, k46_0_6, k46_0_7⟩ := X43.out.f0 mm0
    obtain ⟨k46_1_0, k46_1_1, k46_1_2, k46_1_3, k46_1_4, k46_1_5, k46_1_6, k46_1_7⟩ := X43.out.f0 mm1
    go_wp2_with (first | (go_at_call 92; refine (HNG.out _).mono ?_; rintro e g48 ⟨rfl, hB⟩; (have X47 : Hid _ := X43.out.past hB); clear hB X43 k46_0_0 k46_0_1 k46_0_2 k46_0_3 k46_0_4 k46_0_5 k46_0_6 k46_0_7 k46_1_0 k46_1_1 k46_1_2 k46_1_3 k46_1_4 k46_1_5 k46_1_6 k46_1_7; obtain ⟨k49_0_0, k49_0_1, k49_0_2, k49_0_3, k49_0_4, k49_0_5, k49_0_6, k49_0_7⟩ := X47.out.f0 mm0; obtain ⟨k49_1_0, k49_1_1, k49_1_2, k49_1_3, k49_1_4, k49_1_5, k49_1_6, k49_1_7⟩ := X47.out.f0 mm1))
    clear k49_0_0 k49_0_1 k49_0_2 k49_0_3 k49_0_4 k49_0_5 k49_0_6 k49_0_7 k49_1_0 k49_1_1 k49_1_2 k49_1_3 k49_1_4 k49_1_5 k49_1_6 k49_1_7
    have X50 : Hid (Bx w ((w.heap.size + 1 + 1, z0, z1, z2, z3) :: [(bk3, q0, q1, q2, q3), (w.heap.size + 1, b0, b1, b2, b3), (w.heap.size, a0, a1, a2, a3)]) ((((g48.setCell ⟨w.heap.size + 1 + 1, 0, none⟩ (.int .u64 z0)).setCell ⟨w.heap.size + 1 + 1, 1, none⟩ (.int .u64 z1)).setCell ⟨w.heap.size + 1 + 1, 2, none⟩ (.int .u64 z2)).setCell ⟨w.heap.size + 1 + 1, 3, none⟩ (.int .u64 z3))) := Bx.put (Bx.sub X47.out (l := [(bk3, q0, q1, q2, q3), (w.heap.size + 1 + 1, 0, 0, 0, 0), (w.heap.size + 1, b0, b1, b2, b3), (w.heap.size, a0, a1, a2, a3)]) (m := [(w.heap.size + 1 + 1, 0, 0, 0, 0), (bk3, q0, q1, q2, q3), (w.heap.size + 1, b0, b1, b2, b3), (w.heap.size, a0, a1, a2, a3)]) (by intro p hp; simp only [List.mem_cons, List.not_mem_nil, or_false] at hp ⊢; rcases hp with rfl | rfl | rfl | rfl <;> simp)) (by intro p hp; simp only [List.mem_cons, List.not_mem_nil, or_false] at hp; rcases hp with rfl | rfl | rfl <;> simp <;> omega) z0 z1 z2 z3
    generalize ((((g48.setCell ⟨w.heap.size + 1 + 1, 0, none⟩ (.int .u64 z0)).setCell ⟨w.heap.size + 1 + 1, 1, none⟩ (.int .u64 z1)).setCell ⟨w.heap.size + 1 + 1, 2, none⟩ (.int .u64 z2)).setCell ⟨w.heap.size + 1 + 1, 3, none⟩ (.int .u64 z3)) = g51 at X50 ⊢
    clear X47
    refine bodyPost_ret (v := .agg #[.int .u64 z0, .int .u64 z1, .int .u64 z2, .int .u64 z3]) ?_ rfl ⟨rfl, X50.out.bel⟩
    exact results_c Tryz.results24 _ _ _ ⟨w.heap.size + 1 + 1, 0, none⟩ rfl (loadVar4 (X50.out.box _ mm0))
end Go.Proofs.YtpadpmkfhljiiaaGreat
