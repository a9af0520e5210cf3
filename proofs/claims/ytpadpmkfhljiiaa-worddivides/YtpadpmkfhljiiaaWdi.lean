/- WordDivides: the walk: for every two words the law returns true and turns nothing that was there. -/
import Derived.Test.YtpadpmkfhljiiaaEj
import Derived.Test.YtpadpmkfhljiiaaBx
import Derived.Test.YtpadpmkfhljiiaaWd
import Derived.Test.YtpadpmkfhljiiaaWis
namespace Go.Proofs.Ytpadpmkfhljiiaa
open Go.RowKit
set_option maxHeartbeats 4000000 in
set_option maxRecDepth 100000 in
theorem wdi_zero (a0 a1 a2 a3 : Int) (DI : ∀ w : World, Calls Try.prog 38 #[.agg #[.int .u64 a0, .int .u64 a1, .int .u64 a2, .int .u64 a3], .agg #[.int .u64 0, .int .u64 0, .int .u64 0, .int .u64 0]] w fun e w' => e = .returned (.agg #[.int .u64 0, .int .u64 0, .int .u64 0, .int .u64 0]) ∧ Below w.heap.size w w') (MO : ∀ w : World, Calls Try.prog 39 #[.agg #[.int .u64 a0, .int .u64 a1, .int .u64 a2, .int .u64 a3], .agg #[.int .u64 0, .int .u64 0, .int .u64 0, .int .u64 0]] w fun e w' => e = .returned (.agg #[.int .u64 0, .int .u64 0, .int .u64 0, .int .u64 0]) ∧ Below w.heap.size w w') (w : World) :
    Calls Try.prog 7 #[.agg #[.int .u64 a0, .int .u64 a1, .int .u64 a2, .int .u64 a3], .agg #[.int .u64 0, .int .u64 0, .int .u64 0, .int .u64 0]] w fun e w' => e = .returned (.bool true) ∧ Below w.heap.size w w' := by
  have eqs := eqw_same
  have HDI : Hid (∀ w : World, Calls Try.prog 38 #[.agg #[.int .u64 a0, .int .u64 a1, .int .u64 a2, .int .u64 a3], .agg #[.int .u64 0, .int .u64 0, .int .u64 0, .int .u64 0]] w fun e w' => e = .returned (.agg #[.int .u64 0, .int .u64 0, .int .u64 0, .int .u64 0]) ∧ Below w.heap.size w w') := DI
  have HMO : Hid (∀ w : World, Calls Try.prog 39 #[.agg #[.int .u64 a0, .int .u64 a1, .int .u64 a2, .int .u64 a3], .agg #[.int .u64 0, .int .u64 0, .int .u64 0, .int .u64 0]] w fun e w' => e = .returned (.agg #[.int .u64 0, .int .u64 0, .int .u64 0, .int .u64 0]) ∧ Below w.heap.size w w') := MO
  clear DI MO
  go_enter Try.func7, Try.ntmps7
  go_upto_region 1 with fail
  have X1 : Hid (Bx w [(w.heap.size + 1, 0, 0, 0, 0), (w.heap.size, a0, a1, a2, a3)] ((w.alloc (.cells #[.int .u64 a0, .int .u64 a1, .int .u64 a2, .int .u64 a3] 24)).alloc (.cells #[.int .u64 0, .int .u64 0, .int .u64 0, .int .u64 0] 24))) := by
    have h := ((Bx.start w).alloc a0 a1 a2 a3).alloc 0 0 0 0
    simp only [World.size_alloc] at h
    exact h
  generalize ((w.alloc (.cells #[.int .u64 a0, .int .u64 a1, .int .u64 a2, .int .u64 a3] 24)).alloc (.cells #[.int .u64 0, .int .u64 0, .int .u64 0, .int .u64 0] 24)) = g2 at X1 ⊢
  obtain ⟨k3_0_0, k3_0_1, k3_0_2, k3_0_3, k3_0_4, k3_0_5, k3_0_6, k3_0_7⟩ := X1.out.f0 (List.Mem.head _)
  obtain ⟨k3_1_0, k3_1_1, k3_1_2, k3_1_3, k3_1_4, k3_1_5, k3_1_6, k3_1_7⟩ := X1.out.f0 (List.Mem.tail _ (List.Mem.head _))
  go_upto_region 2 with (first | (refine (HDI.out _).mono ?_; rintro e g5 ⟨rfl, hB⟩; (have X4 : Hid (Bx w [(w.heap.size + 1, 0, 0, 0, 0), (w.heap.size, a0, a1, a2, a3)] g5) := X1.out.past hB); clear hB X1 k3_0_0 k3_0_1 k3_0_2 k3_0_3 k3_0_4 k3_0_5 k3_0_6 k3_0_7 k3_1_0 k3_1_1 k3_1_2 k3_1_3 k3_1_4 k3_1_5 k3_1_6 k3_1_7; obtain ⟨k6_0_0, k6_0_1, k6_0_2, k6_0_3, k6_0_4, k6_0_5, k6_0_6, k6_0_7⟩ := X4.out.f0 (List.Mem.head _); obtain ⟨k6_1_0, k6_1_1, k6_1_2, k6_1_3, k6_1_4, k6_1_5, k6_1_6, k6_1_7⟩ := X4.out.f0 (List.Mem.tail _ (List.Mem.head _))))
  clear k6_0_0 k6_0_1 k6_0_2 k6_0_3 k6_0_4 k6_0_5 k6_0_6 k6_0_7 k6_1_0 k6_1_1 k6_1_2 k6_1_3 k6_1_4 k6_1_5 k6_1_6 k6_1_7
  have X9 : Hid (Bx w ((g5.heap.size, 0, 0, 0, 0) :: [(w.heap.size + 1, 0, 0, 0, 0), (w.heap.size, a0, a1, a2, a3)]) (g5.alloc (.cells #[.int .u64 0, .int .u64 0, .int .u64 0, .int .u64 0] 24))) := X4.out.alloc 0 0 0 0
  have lb7_0 : w.heap.size + 1 < g5.heap.size := X4.out.lt _ (List.Mem.head _)
  have lb7_1 : w.heap.size < g5.heap.size := X4.out.lt _ (List.Mem.tail _ (List.Mem.head _))
  generalize g5.alloc (.cells #[.int .u64 0, .int .u64 0, .int .u64 0, .int .u64 0] 24) = g8 at X9 ⊢
  generalize g5.heap.size = b7 at X9 lb7_0 lb7_1 ⊢
  clear X4
  obtain ⟨k10_1_0, k10_1_1, k10_1_2, k10_1_3, k10_1_4, k10_1_5, k10_1_6, k10_1_7⟩ := X9.out.f0 (List.Mem.tail _ (List.Mem.head _))
  obtain ⟨k10_2_0, k10_2_1, k10_2_2, k10_2_3, k10_2_4, k10_2_5, k10_2_6, k10_2_7⟩ := X9.out.f0 (List.Mem.tail _ (List.Mem.tail _ (List.Mem.head _)))
  go_upto_region 3 with (first | (refine (HMO.out _).mono ?_; rintro e g12 ⟨rfl, hB⟩; (have X11 : Hid (Bx w [(b7, 0, 0, 0, 0), (w.heap.size + 1, 0, 0, 0, 0), (w.heap.size, a0, a1, a2, a3)] g12) := X9.out.past hB); clear hB X9 k10_1_0 k10_1_1 k10_1_2 k10_1_3 k10_1_4 k10_1_5 k10_1_6 k10_1_7 k10_2_0 k10_2_1 k10_2_2 k10_2_3 k10_2_4 k10_2_5 k10_2_6 k10_2_7; obtain ⟨k13_1_0, k13_1_1, k13_1_2, k13_1_3, k13_1_4, k13_1_5, k13_1_6, k13_1_7⟩ := X11.out.f0 (List.Mem.tail _ (List.Mem.head _)); obtain ⟨k13_2_0, k13_2_1, k13_2_2, k13_2_3, k13_2_4, k13_2_5, k13_2_6, k13_2_7⟩ := X11.out.f0 (List.Mem.tail _ (List.Mem.tail _ (List.Mem.head _)))))
  clear k13_1_0 k13_1_1 k13_1_2 k13_1_3 k13_1_4 k13_1_5 k13_1_6 k13_1_7 k13_2_0 k13_2_1 k13_2_2 k13_2_3 k13_2_4 k13_2_5 k13_2_6 k13_2_7
  have X16 : Hid (Bx w ((g12.heap.size, 0, 0, 0, 0) :: [(b7, 0, 0, 0, 0), (w.heap.size + 1, 0, 0, 0, 0), (w.heap.size, a0, a1, a2, a3)]) (g12.alloc (.cells #[.int .u64 0, .int .u64 0, .int .u64 0, .int .u64 0] 24))) := X11.out.alloc 0 0 0 0
  have lb14_0 : b7 < g12.heap.size := X11.out.lt _ (List.Mem.head _)
  have lb14_1 : w.heap.size + 1 < g12.heap.size := X11.out.lt _ (List.Mem.tail _ (List.Mem.head _))
  have lb14_2 : w.heap.size < g12.heap.size := X11.out.lt _ (List.Mem.tail _ (List.Mem.tail _ (List.Mem.head _)))
  generalize g12.alloc (.cells #[.int .u64 0, .int .u64 0, .int .u64 0, .int .u64 0] 24) = g15 at X16 ⊢
  generalize g12.heap.size = b14 at X16 lb14_0 lb14_1 lb14_2 ⊢
  clear X11
  obtain ⟨k17_2_0, k17_2_1, k17_2_2, k17_2_3, k17_2_4, k17_2_5, k17_2_6, k17_2_7⟩ := X16.out.f0 (List.Mem.tail _ (List.Mem.tail _ (List.Mem.head _)))
  go_upto_region 4 with fail
  clear k17_2_0 k17_2_1 k17_2_2 k17_2_3 k17_2_4 k17_2_5 k17_2_6 k17_2_7
  obtain ⟨k18_0_0, k18_0_1, k18_0_2, k18_0_3, k18_0_4, k18_0_5, k18_0_6, k18_0_7⟩ := X16.out.f0 (List.Mem.head _)
  obtain ⟨k18_1_0, k18_1_1, k18_1_2, k18_1_3, k18_1_4, k18_1_5, k18_1_6, k18_1_7⟩ := X16.out.f0 (List.Mem.tail _ (List.Mem.head _))
  obtain ⟨k18_2_0, k18_2_1, k18_2_2, k18_2_3, k18_2_4, k18_2_5, k18_2_6, k18_2_7⟩ := X16.out.f0 (List.Mem.tail _ (List.Mem.tail _ (List.Mem.head _)))
  go_wp2_with (first | (refine (awake_any _).mono ?_; rintro e g20 ⟨rfl, hB⟩; (have X19 : Hid (Bx w [(b14, 0, 0, 0, 0), (b7, 0, 0, 0, 0), (w.heap.size + 1, 0, 0, 0, 0), (w.heap.size, a0, a1, a2, a3)] g20) := X16.out.past hB); clear hB X16 k18_0_0 k18_0_1 k18_0_2 k18_0_3 k18_0_4 k18_0_5 k18_0_6 k18_0_7 k18_1_0 k18_1_1 k18_1_2 k18_1_3 k18_1_4 k18_1_5 k18_1_6 k18_1_7 k18_2_0 k18_2_1 k18_2_2 k18_2_3 k18_2_4 k18_2_5 k18_2_6 k18_2_7; obtain ⟨k21_0_0, k21_0_1, k21_0_2, k21_0_3, k21_0_4, k21_0_5, k21_0_6, k21_0_7⟩ := X19.out.f0 (List.Mem.head _); obtain ⟨k21_1_0, k21_1_1, k21_1_2, k21_1_3, k21_1_4, k21_1_5, k21_1_6, k21_1_7⟩ := X19.out.f0 (List.Mem.tail _ (List.Mem.head _)); obtain ⟨k21_2_0, k21_2_1, k21_2_2, k21_2_3, k21_2_4, k21_2_5, k21_2_6, k21_2_7⟩ := X19.out.f0 (List.Mem.tail _ (List.Mem.tail _ (List.Mem.head _)))))
  go_wp2
  go_ret
  exact ⟨rfl, X19.out.bel⟩
set_option maxHeartbeats 4000000 in
set_option maxRecDepth 100000 in
theorem wdi_less (a0 a1 a2 a3 b0 b1 b2 b3 r0 r1 r2 r3 m0 m1 m2 m3 : Int) (DI : ∀ w : World, Calls Try.prog 38 #[.agg #[.int .u64 a0, .int .u64 a1, .int .u64 a2, .int .u64 a3], .agg #[.int .u64 b0, .int .u64 b1, .int .u64 b2, .int .u64 b3]] w fun e w' => e = .returned (.agg #[.int .u64 0, .int .u64 0, .int .u64 0, .int .u64 0]) ∧ Below w.heap.size w w') (MO : ∀ w : World, Calls Try.prog 39 #[.agg #[.int .u64 a0, .int .u64 a1, .int .u64 a2, .int .u64 a3], .agg #[.int .u64 b0, .int .u64 b1, .int .u64 b2, .int .u64 b3]] w fun e w' => e = .returned (.agg #[.int .u64 r0, .int .u64 r1, .int .u64 r2, .int .u64 r3]) ∧ Below w.heap.size w w') (MU : ∀ w : World, Calls Try.prog 35 #[.agg #[.int .u64 0, .int .u64 0, .int .u64 0, .int .u64 0], .agg #[.int .u64 b0, .int .u64 b1, .int .u64 b2, .int .u64 b3]] w fun e w' => e = .returned (.agg #[.int .u64 m0, .int .u64 m1, .int .u64 m2, .int .u64 m3]) ∧ Below w.heap.size w w') (AD : ∀ w : World, Calls Try.prog 33 #[.agg #[.int .u64 m0, .int .u64 m1, .int .u64 m2, .int .u64 m3], .agg #[.int .u64 r0, .int .u64 r1, .int .u64 r2, .int .u64 r3]] w fun e w' => e = .returned (.agg #[.int .u64 a0, .int .u64 a1, .int .u64 a2, .int .u64 a3]) ∧ Below w.heap.size w w') (LT : ∀ w : World, Calls Try.prog 20 #[.agg #[.int .u64 r0, .int .u64 r1, .int .u64 r2, .int .u64 r3], .agg #[.int .u64 b0, .int .u64 b1, .int .u64 b2, .int .u64 b3]] w fun e w' => e = .returned (.bool true) ∧ Below w.heap.size w w') (GT : ∀ w : World, Calls Try.prog 22 #[.agg #[.int .u64 0, .int .u64 0, .int .u64 0, .int .u64 0], .agg #[.int .u64 a0, .int .u64 a1, .int .u64 a2, .int .u64 a3]] w fun e w' => e = .returned (.bool false) ∧ Below w.heap.size w w') (E0 : ∀ W : World, Sem.run Try.prog (Op.equalIn 10000 24 (.agg #[.int .u64 b0, .int .u64 b1, .int .u64 b2, .int .u64 b3]) (.agg #[.int .u64 0, .int .u64 0, .int .u64 0, .int .u64 0])) W = .ok false W) (w : World) :
    Calls Try.prog 7 #[.agg #[.int .u64 a0, .int .u64 a1, .int .u64 a2, .int .u64 a3], .agg #[.int .u64 b0, .int .u64 b1, .int .u64 b2, .int .u64 b3]] w fun e w' => e = .returned (.bool true) ∧ Below w.heap.size w w' := by
  have eqs := eqw_same
  have HDI : Hid (∀ w : World, Calls Try.prog 38 #[.agg #[.int .u64 a0, .int .u64 a1, .int .u64 a2, .int .u64 a3], .agg #[.int .u64 b0, .int .u64 b1, .int .u64 b2, .int .u64 b3]] w fun e w' => e = .returned (.agg #[.int .u64 0, .int .u64 0, .int .u64 0, .int .u64 0]) ∧ Below w.heap.size w w') := DI
  have HMO : Hid (∀ w : World, Calls Try.prog 39 #[.agg #[.int .u64 a0, .int .u64 a1, .int .u64 a2, .int .u64 a3], .agg #[.int .u64 b0, .int .u64 b1, .int .u64 b2, .int .u64 b3]] w fun e w' => e = .returned (.agg #[.int .u64 r0, .int .u64 r1, .int .u64 r2, .int .u64 r3]) ∧ Below w.heap.size w w') := MO
  have HMU : Hid (∀ w : World, Calls Try.prog 35 #[.agg #[.int .u64 0, .int .u64 0, .int .u64 0, .int .u64 0], .agg #[.int .u64 b0, .int .u64 b1, .int .u64 b2, .int .u64 b3]] w fun e w' => e = .returned (.agg #[.int .u64 m0, .int .u64 m1, .int .u64 m2, .int .u64 m3]) ∧ Below w.heap.size w w') := MU
  have HAD : Hid (∀ w : World, Calls Try.prog 33 #[.agg #[.int .u64 m0, .int .u64 m1, .int .u64 m2, .int .u64 m3], .agg #[.int .u64 r0, .int .u64 r1, .int .u64 r2, .int .u64 r3]] w fun e w' => e = .returned (.agg #[.int .u64 a0, .int .u64 a1, .int .u64 a2, .int .u64 a3]) ∧ Below w.heap.size w w') := AD
  have HLT : Hid (∀ w : World, Calls Try.prog 20 #[.agg #[.int .u64 r0, .int .u64 r1, .int .u64 r2, .int .u64 r3], .agg #[.int .u64 b0, .int .u64 b1, .int .u64 b2, .int .u64 b3]] w fun e w' => e = .returned (.bool true) ∧ Below w.heap.size w w') := LT
  have HGT : Hid (∀ w : World, Calls Try.prog 22 #[.agg #[.int .u64 0, .int .u64 0, .int .u64 0, .int .u64 0], .agg #[.int .u64 a0, .int .u64 a1, .int .u64 a2, .int .u64 a3]] w fun e w' => e = .returned (.bool false) ∧ Below w.heap.size w w') := GT
  clear DI MO MU AD LT GT
  go_enter Try.func7, Try.ntmps7
  go_upto_region 1 with fail
  have X1 : Hid (Bx w [(w.heap.size + 1, b0, b1, b2, b3), (w.heap.size, a0, a1, a2, a3)] ((w.alloc (.cells #[.int .u64 a0, .int .u64 a1, .int .u64 a2, .int .u64 a3] 24)).alloc (.cells #[.int .u64 b0, .int .u64 b1, .int .u64 b2, .int .u64 b3] 24))) := by
    have h := ((Bx.start w).alloc a0 a1 a2 a3).alloc b0 b1 b2 b3
    simp only [World.size_alloc] at h
    exact h
  generalize ((w.alloc (.cells #[.int .u64 a0, .int .u64 a1, .int .u64 a2, .int .u64 a3] 24)).alloc (.cells #[.int .u64 b0, .int .u64 b1, .int .u64 b2, .int .u64 b3] 24)) = g2 at X1 ⊢
  obtain ⟨k3_0_0, k3_0_1, k3_0_2, k3_0_3, k3_0_4, k3_0_5, k3_0_6, k3_0_7⟩ := X1.out.f0 (List.Mem.head _)
  obtain ⟨k3_1_0, k3_1_1, k3_1_2, k3_1_3, k3_1_4, k3_1_5, k3_1_6, k3_1_7⟩ := X1.out.f0 (List.Mem.tail _ (List.Mem.head _))
  go_upto_region 2 with (first | (refine (HDI.out _).mono ?_; rintro e g5 ⟨rfl, hB⟩; (have X4 : Hid (Bx w [(w.heap.size + 1, b0, b1, b2, b3), (w.heap.size, a0, a1, a2, a3)] g5) := X1.out.past hB); clear hB X1 k3_0_0 k3_0_1 k3_0_2 k3_0_3 k3_0_4 k3_0_5 k3_0_6 k3_0_7 k3_1_0 k3_1_1 k3_1_2 k3_1_3 k3_1_4 k3_1_5 k3_1_6 k3_1_7; obtain ⟨k6_0_0, k6_0_1, k6_0_2, k6_0_3, k6_0_4, k6_0_5, k6_0_6, k6_0_7⟩ := X4.out.f0 (List.Mem.head _); obtain ⟨k6_1_0, k6_1_1, k6_1_2, k6_1_3, k6_1_4, k6_1_5, k6_1_6, k6_1_7⟩ := X4.out.f0 (List.Mem.tail _ (List.Mem.head _))))
  clear k6_0_0 k6_0_1 k6_0_2 k6_0_3 k6_0_4 k6_0_5 k6_0_6 k6_0_7 k6_1_0 k6_1_1 k6_1_2 k6_1_3 k6_1_4 k6_1_5 k6_1_6 k6_1_7
  have X9 : Hid (Bx w ((g5.heap.size, 0, 0, 0, 0) :: [(w.heap.size + 1, b0, b1, b2, b3), (w.heap.size, a0, a1, a2, a3)]) (g5.alloc (.cells #[.int .u64 0, .int .u64 0, .int .u64 0, .int .u64 0] 24))) := X4.out.alloc 0 0 0 0
  have lb7_0 : w.heap.size + 1 < g5.heap.size := X4.out.lt _ (List.Mem.head _)
  have lb7_1 : w.heap.size < g5.heap.size := X4.out.lt _ (List.Mem.tail _ (List.Mem.head _))
  generalize g5.alloc (.cells #[.int .u64 0, .int .u64 0, .int .u64 0, .int .u64 0] 24) = g8 at X9 ⊢
  generalize g5.heap.size = b7 at X9 lb7_0 lb7_1 ⊢
  clear X4
  obtain ⟨k10_1_0, k10_1_1, k10_1_2, k10_1_3, k10_1_4, k10_1_5, k10_1_6, k10_1_7⟩ := X9.out.f0 (List.Mem.tail _ (List.Mem.head _))
  obtain ⟨k10_2_0, k10_2_1, k10_2_2, k10_2_3, k10_2_4, k10_2_5, k10_2_6, k10_2_7⟩ := X9.out.f0 (List.Mem.tail _ (List.Mem.tail _ (List.Mem.head _)))
  go_upto_region 3 with (first | (refine (HMO.out _).mono ?_; rintro e g12 ⟨rfl, hB⟩; (have X11 : Hid (Bx w [(b7, 0, 0, 0, 0), (w.heap.size + 1, b0, b1, b2, b3), (w.heap.size, a0, a1, a2, a3)] g12) := X9.out.past hB); clear hB X9 k10_1_0 k10_1_1 k10_1_2 k10_1_3 k10_1_4 k10_1_5 k10_1_6 k10_1_7 k10_2_0 k10_2_1 k10_2_2 k10_2_3 k10_2_4 k10_2_5 k10_2_6 k10_2_7; obtain ⟨k13_1_0, k13_1_1, k13_1_2, k13_1_3, k13_1_4, k13_1_5, k13_1_6, k13_1_7⟩ := X11.out.f0 (List.Mem.tail _ (List.Mem.head _)); obtain ⟨k13_2_0, k13_2_1, k13_2_2, k13_2_3, k13_2_4, k13_2_5, k13_2_6, k13_2_7⟩ := X11.out.f0 (List.Mem.tail _ (List.Mem.tail _ (List.Mem.head _)))))
  clear k13_1_0 k13_1_1 k13_1_2 k13_1_3 k13_1_4 k13_1_5 k13_1_6 k13_1_7 k13_2_0 k13_2_1 k13_2_2 k13_2_3 k13_2_4 k13_2_5 k13_2_6 k13_2_7
  have X16 : Hid (Bx w ((g12.heap.size, r0, r1, r2, r3) :: [(b7, 0, 0, 0, 0), (w.heap.size + 1, b0, b1, b2, b3), (w.heap.size, a0, a1, a2, a3)]) (g12.alloc (.cells #[.int .u64 r0, .int .u64 r1, .int .u64 r2, .int .u64 r3] 24))) := X11.out.alloc r0 r1 r2 r3
  have lb14_0 : b7 < g12.heap.size := X11.out.lt _ (List.Mem.head _)
  have lb14_1 : w.heap.size + 1 < g12.heap.size := X11.out.lt _ (List.Mem.tail _ (List.Mem.head _))
  have lb14_2 : w.heap.size < g12.heap.size := X11.out.lt _ (List.Mem.tail _ (List.Mem.tail _ (List.Mem.head _)))
  generalize g12.alloc (.cells #[.int .u64 r0, .int .u64 r1, .int .u64 r2, .int .u64 r3] 24) = g15 at X16 ⊢
  generalize g12.heap.size = b14 at X16 lb14_0 lb14_1 lb14_2 ⊢
  clear X11
  obtain ⟨k17_2_0, k17_2_1, k17_2_2, k17_2_3, k17_2_4, k17_2_5, k17_2_6, k17_2_7⟩ := X16.out.f0 (List.Mem.tail _ (List.Mem.tail _ (List.Mem.head _)))
  go_upto_region 5 with fail
  clear k17_2_0 k17_2_1 k17_2_2 k17_2_3 k17_2_4 k17_2_5 k17_2_6 k17_2_7
  refine wp_region_held_drew (S := fun w' => Bx w [(b14, r0, r1, r2, r3), (b7, 0, 0, 0, 0), (w.heap.size + 1, b0, b1, b2, b3), (w.heap.size, a0, a1, a2, a3)] w') (by kernel_rfl) X16.out.drew (fun hHeld => ?_)
  generalize g15.drew = g18 at hHeld ⊢
  clear X16
  refine wpAnyH_take (i := 0) (v := .agg #[.int .u64 0, .int .u64 0, .int .u64 0, .int .u64 0]) op0 (by kernel_rfl) (by kernel_rfl) (by kernel_rfl) (fun _ _ _ h => h) (Or.inl ⟨by rfl, fun W hS => ?_⟩) hHeld ?_
  · obtain ⟨c0, c1, c2, c3, _⟩ := hS.f0 (List.Mem.tail _ (List.Mem.head _))
    go_simp
  simp only [Act.put, List.setIfInBounds_toArray, List.set_cons_zero, List.set_cons_succ]
  refine wpAnyH_take (i := 1) (v := .agg #[.int .u64 b0, .int .u64 b1, .int .u64 b2, .int .u64 b3]) op1 (by kernel_rfl) (by kernel_rfl) (by kernel_rfl) (fun _ _ _ h => h) (Or.inl ⟨by rfl, fun W hS => ?_⟩) hHeld ?_
  · obtain ⟨c0, c1, c2, c3, _⟩ := hS.f0 (List.Mem.tail _ (List.Mem.tail _ (List.Mem.head _)))
    go_simp
  simp only [Act.put, List.setIfInBounds_toArray, List.set_cons_zero, List.set_cons_succ]
  refine wpAnyH_take (i := 3) (v := .agg #[.int .u64 r0, .int .u64 r1, .int .u64 r2, .int .u64 r3]) op3 (by kernel_rfl) (by kernel_rfl) (by kernel_rfl) (fun _ _ _ h => h) (Or.inl ⟨by rfl, fun W hS => ?_⟩) hHeld ?_
  · obtain ⟨c0, c1, c2, c3, _⟩ := hS.f0 (List.Mem.head _)
    go_simp
  simp only [Act.put, List.setIfInBounds_toArray, List.set_cons_zero, List.set_cons_succ]
  refine wpAnyH_take (i := 5) (v := .agg #[.int .u64 a0, .int .u64 a1, .int .u64 a2, .int .u64 a3]) op5 (by kernel_rfl) (by kernel_rfl) (by kernel_rfl) (fun _ _ _ h => h) (Or.inl ⟨by rfl, fun W hS => ?_⟩) hHeld ?_
  · obtain ⟨c0, c1, c2, c3, _⟩ := hS.f0 (List.Mem.tail _ (List.Mem.tail _ (List.Mem.tail _ (List.Mem.head _))))
    go_simp
  simp only [Act.put, List.setIfInBounds_toArray, List.set_cons_zero, List.set_cons_succ]
  refine wpAnyH_ready (rs := [2]) (by kernel_rfl) (by simp) ?_
  refine AllReadyH.cons op2 (fun K hK => ?_) AllReadyH.nil
  rw [if_pos (by rfl)]
  go_simp
  refine (HMU.out _).mono ?_
  rintro e g19 ⟨rfl, hB⟩
  have x20 : Bx w [(b14, r0, r1, r2, r3), (b7, 0, 0, 0, 0), (w.heap.size + 1, b0, b1, b2, b3), (w.heap.size, a0, a1, a2, a3)] g19 := hHeld.past hB
  clear hB hHeld
  (try go_wp2_with fail)
  refine hK.out _ _ x20 (fun _ => ?_)
  clear hK K
  refine wpAnyH_ready (rs := [4]) (by kernel_rfl) (by simp) ?_
  refine AllReadyH.cons op4 (fun K hK => ?_) AllReadyH.nil
  rw [if_pos (by rfl)]
  go_simp
  refine (HAD.out _).mono ?_
  rintro e g21 ⟨rfl, hB⟩
  have x22 : Bx w [(b14, r0, r1, r2, r3), (b7, 0, 0, 0, 0), (w.heap.size + 1, b0, b1, b2, b3), (w.heap.size, a0, a1, a2, a3)] g21 := x20.past hB
  clear hB x20
  (try go_wp2_with fail)
  refine hK.out _ _ x22 (fun _ => ?_)
  clear hK K
  refine wpAnyH_take (i := 6) (v := .bool false) op6 (by kernel_rfl) (by kernel_rfl) (by kernel_rfl) (fun _ _ _ h => h) (Or.inl ⟨by rfl, fun W hS => ?_⟩) x22 ?_
  · go_simp
  simp only [Act.put, List.setIfInBounds_toArray, List.set_cons_zero, List.set_cons_succ]
  refine wpAnyH_take (i := 7) (v := .bool false) op7 (by kernel_rfl) (by kernel_rfl) (by kernel_rfl) (fun _ _ _ h => h) (Or.inl ⟨by rfl, fun W hS => ?_⟩) x22 ?_
  · go_simp
  simp only [Act.put, List.setIfInBounds_toArray, List.set_cons_zero, List.set_cons_succ]
  refine wpAnyH_take (i := 8) (v := .agg #[.int .u64 r0, .int .u64 r1, .int .u64 r2, .int .u64 r3]) op8 (by kernel_rfl) (by kernel_rfl) (by kernel_rfl) (fun _ _ _ h => h) (Or.inl ⟨by rfl, fun W hS => ?_⟩) x22 ?_
  · obtain ⟨c0, c1, c2, c3, _⟩ := hS.f0 (List.Mem.head _)
    go_simp
  simp only [Act.put, List.setIfInBounds_toArray, List.set_cons_zero, List.set_cons_succ]
  refine wpAnyH_take (i := 9) (v := .agg #[.int .u64 b0, .int .u64 b1, .int .u64 b2, .int .u64 b3]) op9 (by kernel_rfl) (by kernel_rfl) (by kernel_rfl) (fun _ _ _ h => h) (Or.inl ⟨by rfl, fun W hS => ?_⟩) x22 ?_
  · obtain ⟨c0, c1, c2, c3, _⟩ := hS.f0 (List.Mem.tail _ (List.Mem.tail _ (List.Mem.head _)))
    go_simp
  simp only [Act.put, List.setIfInBounds_toArray, List.set_cons_zero, List.set_cons_succ]
  refine wpAnyH_ready (rs := [10]) (by kernel_rfl) (by simp) ?_
  refine AllReadyH.cons op10 (fun K hK => ?_) AllReadyH.nil
  rw [if_pos (by rfl)]
  go_simp
  refine (HLT.out _).mono ?_
  rintro e g23 ⟨rfl, hB⟩
  have x24 : Bx w [(b14, r0, r1, r2, r3), (b7, 0, 0, 0, 0), (w.heap.size + 1, b0, b1, b2, b3), (w.heap.size, a0, a1, a2, a3)] g23 := x22.past hB
  clear hB x22
  (try go_wp2_with fail)
  refine hK.out _ _ x24 (fun _ => ?_)
  clear hK K
  refine wpAnyH_take (i := 11) (v := .bool false) op11 (by kernel_rfl) (by kernel_rfl) (by kernel_rfl) (fun _ _ _ h => h) (Or.inl ⟨by rfl, fun W hS => ?_⟩) x24 ?_
  · go_simp
  simp only [Act.put, List.setIfInBounds_toArray, List.set_cons_zero, List.set_cons_succ]
  refine wpAnyH_take (i := 12) (v := .bool false) op12 (by kernel_rfl) (by kernel_rfl) (by kernel_rfl) (fun _ _ _ h => h) (Or.inl ⟨by rfl, fun W hS => ?_⟩) x24 ?_
  · go_simp
  simp only [Act.put, List.setIfInBounds_toArray, List.set_cons_zero, List.set_cons_succ]
  refine wpAnyH_take (i := 13) (v := .bool false) op13 (by kernel_rfl) (by kernel_rfl) (by kernel_rfl) (fun _ _ _ h => h) (Or.inl ⟨by rfl, fun W hS => ?_⟩) x24 ?_
  · go_simp
  simp only [Act.put, List.setIfInBounds_toArray, List.set_cons_zero, List.set_cons_succ]
  refine wpAnyH_take (i := 14) (v := .agg #[.int .u64 0, .int .u64 0, .int .u64 0, .int .u64 0]) op14 (by kernel_rfl) (by kernel_rfl) (by kernel_rfl) (fun _ _ _ h => h) (Or.inl ⟨by rfl, fun W hS => ?_⟩) x24 ?_
  · obtain ⟨c0, c1, c2, c3, _⟩ := hS.f0 (List.Mem.tail _ (List.Mem.head _))
    go_simp
  simp only [Act.put, List.setIfInBounds_toArray, List.set_cons_zero, List.set_cons_succ]
  refine wpAnyH_take (i := 15) (v := .agg #[.int .u64 a0, .int .u64 a1, .int .u64 a2, .int .u64 a3]) op15 (by kernel_rfl) (by kernel_rfl) (by kernel_rfl) (fun _ _ _ h => h) (Or.inl ⟨by rfl, fun W hS => ?_⟩) x24 ?_
  · obtain ⟨c0, c1, c2, c3, _⟩ := hS.f0 (List.Mem.tail _ (List.Mem.tail _ (List.Mem.tail _ (List.Mem.head _))))
    go_simp
  simp only [Act.put, List.setIfInBounds_toArray, List.set_cons_zero, List.set_cons_succ]
  refine wpAnyH_ready (rs := [16]) (by kernel_rfl) (by simp) ?_
  refine AllReadyH.cons op16 (fun K hK => ?_) AllReadyH.nil
  rw [if_pos (by rfl)]
  go_simp
  refine (HGT.out _).mono ?_
  rintro e g25 ⟨rfl, hB⟩
  have x26 : Bx w [(b14, r0, r1, r2, r3), (b7, 0, 0, 0, 0), (w.heap.size + 1, b0, b1, b2, b3), (w.heap.size, a0, a1, a2, a3)] g25 := x24.past hB
  clear hB x24
  (try go_wp2_with fail)
  refine hK.out _ _ x26 (fun _ => ?_)
  clear hK K
  refine wpAnyH_take (i := 17) (v := .bool false) op17 (by kernel_rfl) (by kernel_rfl) (by kernel_rfl) (fun _ _ _ h => h) (Or.inl ⟨by rfl, fun W hS => ?_⟩) x26 ?_
  · go_simp
  simp only [Act.put, List.setIfInBounds_toArray, List.set_cons_zero, List.set_cons_succ]
  refine wpAnyH_done (by kernel_rfl) ?_ _
  have X27 : Hid (Bx w [(b14, r0, r1, r2, r3), (b7, 0, 0, 0, 0), (w.heap.size + 1, b0, b1, b2, b3), (w.heap.size, a0, a1, a2, a3)] g25) := x26
  clear x26
  go_upto_region 7 with fail
  refine wp_region_held_drew (S := fun w' => Bx w [(b14, r0, r1, r2, r3), (b7, 0, 0, 0, 0), (w.heap.size + 1, b0, b1, b2, b3), (w.heap.size, a0, a1, a2, a3)] w') (by kernel_rfl) X27.out.drew (fun hHeld => ?_)
  generalize g25.drew = g28 at hHeld ⊢
  clear X27
  refine wpAnyH_take (i := 0) (v := .agg #[.int .u64 0, .int .u64 0, .int .u64 0, .int .u64 0]) op0 (by kernel_rfl) (by kernel_rfl) (by kernel_rfl) (fun _ _ _ h => h) (Or.inl ⟨by rfl, fun W hS => ?_⟩) hHeld ?_
  · obtain ⟨c0, c1, c2, c3, _⟩ := hS.f0 (List.Mem.tail _ (List.Mem.head _))
    go_simp
  simp only [Act.put, List.setIfInBounds_toArray, List.set_cons_zero, List.set_cons_succ]
  refine wpAnyH_take (i := 1) (v := .agg #[.int .u64 0, .int .u64 0, .int .u64 0, .int .u64 0]) op1 (by kernel_rfl) (by kernel_rfl) (by kernel_rfl) (fun _ _ _ h => h) (Or.inl ⟨by rfl, fun W hS => ?_⟩) hHeld ?_
  · go_simp
  simp only [Act.put, List.setIfInBounds_toArray, List.set_cons_zero, List.set_cons_succ]
  refine wpAnyH_take (i := 2) (v := .bool true) op2 (by kernel_rfl) (by kernel_rfl) (by kernel_rfl) (fun _ _ _ h => h) (Or.inl ⟨by rfl, fun W hS => ?_⟩) hHeld ?_
  · go_simp
  simp only [Act.put, List.setIfInBounds_toArray, List.set_cons_zero, List.set_cons_succ]
  refine wpAnyH_take (i := 3) (v := .bool true) op3 (by kernel_rfl) (by kernel_rfl) (by kernel_rfl) (fun _ _ _ h => h) (Or.inl ⟨by rfl, fun W hS => ?_⟩) hHeld ?_
  · go_simp
  simp only [Act.put, List.setIfInBounds_toArray, List.set_cons_zero, List.set_cons_succ]
  refine wpAnyH_take (i := 4) (v := undef) op4 (by kernel_rfl) (by kernel_rfl) (by kernel_rfl) (fun _ _ _ h => h) (Or.inr ⟨by rfl, rfl⟩) hHeld ?_
  simp only [Act.put, List.setIfInBounds_toArray, List.set_cons_zero, List.set_cons_succ]
  refine wpAnyH_take (i := 5) (v := undef) op5 (by kernel_rfl) (by kernel_rfl) (by kernel_rfl) (fun _ _ _ h => h) (Or.inr ⟨by rfl, rfl⟩) hHeld ?_
  simp only [Act.put, List.setIfInBounds_toArray, List.set_cons_zero, List.set_cons_succ]
  refine wpAnyH_take (i := 6) (v := undef) op6 (by kernel_rfl) (by kernel_rfl) (by kernel_rfl) (fun _ _ _ h => h) (Or.inr ⟨by rfl, rfl⟩) hHeld ?_
  simp only [Act.put, List.setIfInBounds_toArray, List.set_cons_zero, List.set_cons_succ]
  refine wpAnyH_take (i := 7) (v := undef) op7 (by kernel_rfl) (by kernel_rfl) (by kernel_rfl) (fun _ _ _ h => h) (Or.inr ⟨by rfl, rfl⟩) hHeld ?_
  simp only [Act.put, List.setIfInBounds_toArray, List.set_cons_zero, List.set_cons_succ]
  refine wpAnyH_take (i := 8) (v := undef) op8 (by kernel_rfl) (by kernel_rfl) (by kernel_rfl) (fun _ _ _ h => h) (Or.inr ⟨by rfl, rfl⟩) hHeld ?_
  simp only [Act.put, List.setIfInBounds_toArray, List.set_cons_zero, List.set_cons_succ]
  refine wpAnyH_take (i := 9) (v := undef) op9 (by kernel_rfl) (by kernel_rfl) (by kernel_rfl) (fun _ _ _ h => h) (Or.inr ⟨by rfl, rfl⟩) hHeld ?_
  simp only [Act.put, List.setIfInBounds_toArray, List.set_cons_zero, List.set_cons_succ]
  refine wpAnyH_take (i := 10) (v := undef) op10 (by kernel_rfl) (by kernel_rfl) (by kernel_rfl) (fun _ _ _ h => h) (Or.inr ⟨by rfl, rfl⟩) hHeld ?_
  simp only [Act.put, List.setIfInBounds_toArray, List.set_cons_zero, List.set_cons_succ]
  refine wpAnyH_take (i := 11) (v := undef) op11 (by kernel_rfl) (by kernel_rfl) (by kernel_rfl) (fun _ _ _ h => h) (Or.inr ⟨by rfl, rfl⟩) hHeld ?_
  simp only [Act.put, List.setIfInBounds_toArray, List.set_cons_zero, List.set_cons_succ]
  refine wpAnyH_take (i := 12) (v := undef) op12 (by kernel_rfl) (by kernel_rfl) (by kernel_rfl) (fun _ _ _ h => h) (Or.inr ⟨by rfl, rfl⟩) hHeld ?_
  simp only [Act.put, List.setIfInBounds_toArray, List.set_cons_zero, List.set_cons_succ]
  refine wpAnyH_take (i := 13) (v := undef) op13 (by kernel_rfl) (by kernel_rfl) (by kernel_rfl) (fun _ _ _ h => h) (Or.inr ⟨by rfl, rfl⟩) hHeld ?_
  simp only [Act.put, List.setIfInBounds_toArray, List.set_cons_zero, List.set_cons_succ]
  refine wpAnyH_take (i := 14) (v := undef) op14 (by kernel_rfl) (by kernel_rfl) (by kernel_rfl) (fun _ _ _ h => h) (Or.inr ⟨by rfl, rfl⟩) hHeld ?_
  simp only [Act.put, List.setIfInBounds_toArray, List.set_cons_zero, List.set_cons_succ]
  refine wpAnyH_take (i := 15) (v := undef) op15 (by kernel_rfl) (by kernel_rfl) (by kernel_rfl) (fun _ _ _ h => h) (Or.inr ⟨by rfl, rfl⟩) hHeld ?_
  simp only [Act.put, List.setIfInBounds_toArray, List.set_cons_zero, List.set_cons_succ]
  refine wpAnyH_take (i := 16) (v := undef) op16 (by kernel_rfl) (by kernel_rfl) (by kernel_rfl) (fun _ _ _ h => h) (Or.inr ⟨by rfl, rfl⟩) hHeld ?_
  simp only [Act.put, List.setIfInBounds_toArray, List.set_cons_zero, List.set_cons_succ]
  refine wpAnyH_take (i := 17) (v := undef) op17 (by kernel_rfl) (by kernel_rfl) (by kernel_rfl) (fun _ _ _ h => h) (Or.inr ⟨by rfl, rfl⟩) hHeld ?_
  simp only [Act.put, List.setIfInBounds_toArray, List.set_cons_zero, List.set_cons_succ]
  refine wpAnyH_take (i := 18) (v := undef) op18 (by kernel_rfl) (by kernel_rfl) (by kernel_rfl) (fun _ _ _ h => h) (Or.inr ⟨by rfl, rfl⟩) hHeld ?_
  simp only [Act.put, List.setIfInBounds_toArray, List.set_cons_zero, List.set_cons_succ]
  refine wpAnyH_take (i := 19) (v := .bool true) op19 (by kernel_rfl) (by kernel_rfl) (by kernel_rfl) (fun _ _ _ h => h) (Or.inl ⟨by rfl, fun W hS => ?_⟩) hHeld ?_
  · go_simp
  simp only [Act.put, List.setIfInBounds_toArray, List.set_cons_zero, List.set_cons_succ]
  refine wpAnyH_take (i := 20) (v := .bool true) op20 (by kernel_rfl) (by kernel_rfl) (by kernel_rfl) (fun _ _ _ h => h) (Or.inl ⟨by rfl, fun W hS => ?_⟩) hHeld ?_
  · go_simp
  simp only [Act.put, List.setIfInBounds_toArray, List.set_cons_zero, List.set_cons_succ]
  refine wpAnyH_ready (rs := [21]) (by kernel_rfl) (by simp) ?_
  refine AllReadyH.cons op21 (fun K hK => ?_) AllReadyH.nil
  rw [if_pos (by rfl)]
  go_simp
  refine (awake_any _).mono ?_
  rintro e g29 ⟨rfl, hB⟩
  have x30 : Bx w [(b14, r0, r1, r2, r3), (b7, 0, 0, 0, 0), (w.heap.size + 1, b0, b1, b2, b3), (w.heap.size, a0, a1, a2, a3)] g29 := hHeld.past hB
  clear hB hHeld
  (try go_wp2_with fail)
  refine hK.out _ _ x30 (fun _ => ?_)
  clear hK K
  refine wpAnyH_take (i := 22) (v := .bool true) op22 (by kernel_rfl) (by kernel_rfl) (by kernel_rfl) (fun _ _ _ h => h) (Or.inl ⟨by rfl, fun W hS => ?_⟩) x30 ?_
  · go_simp
  simp only [Act.put, List.setIfInBounds_toArray, List.set_cons_zero, List.set_cons_succ]
  refine wpAnyH_take (i := 23) (v := .bool true) op23 (by kernel_rfl) (by kernel_rfl) (by kernel_rfl) (fun _ _ _ h => h) (Or.inl ⟨by rfl, fun W hS => ?_⟩) x30 ?_
  · go_simp
  simp only [Act.put, List.setIfInBounds_toArray, List.set_cons_zero, List.set_cons_succ]
  refine wpAnyH_done (by kernel_rfl) ?_ _
  have X31 : Hid (Bx w [(b14, r0, r1, r2, r3), (b7, 0, 0, 0, 0), (w.heap.size + 1, b0, b1, b2, b3), (w.heap.size, a0, a1, a2, a3)] g29) := x30
  clear x30
  go_wp2
  go_ret
  exact ⟨rfl, X31.out.bel⟩
set_option maxHeartbeats 4000000 in
set_option maxRecDepth 100000 in
theorem wdi_more (a0 a1 a2 a3 b0 b1 b2 b3 q0 q1 q2 q3 r0 r1 r2 r3 m0 m1 m2 m3 : Int) (DI : ∀ w : World, Calls Try.prog 38 #[.agg #[.int .u64 a0, .int .u64 a1, .int .u64 a2, .int .u64 a3], .agg #[.int .u64 b0, .int .u64 b1, .int .u64 b2, .int .u64 b3]] w fun e w' => e = .returned (.agg #[.int .u64 q0, .int .u64 q1, .int .u64 q2, .int .u64 q3]) ∧ Below w.heap.size w w') (MO : ∀ w : World, Calls Try.prog 39 #[.agg #[.int .u64 a0, .int .u64 a1, .int .u64 a2, .int .u64 a3], .agg #[.int .u64 b0, .int .u64 b1, .int .u64 b2, .int .u64 b3]] w fun e w' => e = .returned (.agg #[.int .u64 r0, .int .u64 r1, .int .u64 r2, .int .u64 r3]) ∧ Below w.heap.size w w') (MU : ∀ w : World, Calls Try.prog 35 #[.agg #[.int .u64 q0, .int .u64 q1, .int .u64 q2, .int .u64 q3], .agg #[.int .u64 b0, .int .u64 b1, .int .u64 b2, .int .u64 b3]] w fun e w' => e = .returned (.agg #[.int .u64 m0, .int .u64 m1, .int .u64 m2, .int .u64 m3]) ∧ Below w.heap.size w w') (AD : ∀ w : World, Calls Try.prog 33 #[.agg #[.int .u64 m0, .int .u64 m1, .int .u64 m2, .int .u64 m3], .agg #[.int .u64 r0, .int .u64 r1, .int .u64 r2, .int .u64 r3]] w fun e w' => e = .returned (.agg #[.int .u64 a0, .int .u64 a1, .int .u64 a2, .int .u64 a3]) ∧ Below w.heap.size w w') (LT : ∀ w : World, Calls Try.prog 20 #[.agg #[.int .u64 r0, .int .u64 r1, .int .u64 r2, .int .u64 r3], .agg #[.int .u64 b0, .int .u64 b1, .int .u64 b2, .int .u64 b3]] w fun e w' => e = .returned (.bool true) ∧ Below w.heap.size w w') (GT : ∀ w : World, Calls Try.prog 22 #[.agg #[.int .u64 q0, .int .u64 q1, .int .u64 q2, .int .u64 q3], .agg #[.int .u64 a0, .int .u64 a1, .int .u64 a2, .int .u64 a3]] w fun e w' => e = .returned (.bool false) ∧ Below w.heap.size w w') (DM : ∀ w : World, Calls Try.prog 38 #[.agg #[.int .u64 m0, .int .u64 m1, .int .u64 m2, .int .u64 m3], .agg #[.int .u64 b0, .int .u64 b1, .int .u64 b2, .int .u64 b3]] w fun e w' => e = .returned (.agg #[.int .u64 q0, .int .u64 q1, .int .u64 q2, .int .u64 q3]) ∧ Below w.heap.size w w') (LM : ∀ w : World, Calls Try.prog 20 #[.agg #[.int .u64 a0, .int .u64 a1, .int .u64 a2, .int .u64 a3], .agg #[.int .u64 m0, .int .u64 m1, .int .u64 m2, .int .u64 m3]] w fun e w' => e = .returned (.bool false) ∧ Below w.heap.size w w') (E0 : ∀ W : World, Sem.run Try.prog (Op.equalIn 10000 24 (.agg #[.int .u64 b0, .int .u64 b1, .int .u64 b2, .int .u64 b3]) (.agg #[.int .u64 0, .int .u64 0, .int .u64 0, .int .u64 0])) W = .ok false W) (E1 : ∀ W : World, Sem.run Try.prog (Op.equalIn 10000 24 (.agg #[.int .u64 q0, .int .u64 q1, .int .u64 q2, .int .u64 q3]) (.agg #[.int .u64 0, .int .u64 0, .int .u64 0, .int .u64 0])) W = .ok false W) (w : World) :
    Calls Try.prog 7 #[.agg #[.int .u64 a0, .int .u64 a1, .int .u64 a2, .int .u64 a3], .agg #[.int .u64 b0, .int .u64 b1, .int .u64 b2, .int .u64 b3]] w fun e w' => e = .returned (.bool true) ∧ Below w.heap.size w w' := by
  have eqs := eqw_same
  have HDI : Hid (∀ w : World, Calls Try.prog 38 #[.agg #[.int .u64 a0, .int .u64 a1, .int .u64 a2, .int .u64 a3], .agg #[.int .u64 b0, .int .u64 b1, .int .u64 b2, .int .u64 b3]] w fun e w' => e = .returned (.agg #[.int .u64 q0, .int .u64 q1, .int .u64 q2, .int .u64 q3]) ∧ Below w.heap.size w w') := DI
  have HMO : Hid (∀ w : World, Calls Try.prog 39 #[.agg #[.int .u64 a0, .int .u64 a1, .int .u64 a2, .int .u64 a3], .agg #[.int .u64 b0, .int .u64 b1, .int .u64 b2, .int .u64 b3]] w fun e w' => e = .returned (.agg #[.int .u64 r0, .int .u64 r1, .int .u64 r2, .int .u64 r3]) ∧ Below w.heap.size w w') := MO
  have HMU : Hid (∀ w : World, Calls Try.prog 35 #[.agg #[.int .u64 q0, .int .u64 q1, .int .u64 q2, .int .u64 q3], .agg #[.int .u64 b0, .int .u64 b1, .int .u64 b2, .int .u64 b3]] w fun e w' => e = .returned (.agg #[.int .u64 m0, .int .u64 m1, .int .u64 m2, .int .u64 m3]) ∧ Below w.heap.size w w') := MU
  have HAD : Hid (∀ w : World, Calls Try.prog 33 #[.agg #[.int .u64 m0, .int .u64 m1, .int .u64 m2, .int .u64 m3], .agg #[.int .u64 r0, .int .u64 r1, .int .u64 r2, .int .u64 r3]] w fun e w' => e = .returned (.agg #[.int .u64 a0, .int .u64 a1, .int .u64 a2, .int .u64 a3]) ∧ Below w.heap.size w w') := AD
  have HLT : Hid (∀ w : World, Calls Try.prog 20 #[.agg #[.int .u64 r0, .int .u64 r1, .int .u64 r2, .int .u64 r3], .agg #[.int .u64 b0, .int .u64 b1, .int .u64 b2, .int .u64 b3]] w fun e w' => e = .returned (.bool true) ∧ Below w.heap.size w w') := LT
  have HGT : Hid (∀ w : World, Calls Try.prog 22 #[.agg #[.int .u64 q0, .int .u64 q1, .int .u64 q2, .int .u64 q3], .agg #[.int .u64 a0, .int .u64 a1, .int .u64 a2, .int .u64 a3]] w fun e w' => e = .returned (.bool false) ∧ Below w.heap.size w w') := GT
  have HDM : Hid (∀ w : World, Calls Try.prog 38 #[.agg #[.int .u64 m0, .int .u64 m1, .int .u64 m2, .int .u64 m3], .agg #[.int .u64 b0, .int .u64 b1, .int .u64 b2, .int .u64 b3]] w fun e w' => e = .returned (.agg #[.int .u64 q0, .int .u64 q1, .int .u64 q2, .int .u64 q3]) ∧ Below w.heap.size w w') := DM
  have HLM : Hid (∀ w : World, Calls Try.prog 20 #[.agg #[.int .u64 a0, .int .u64 a1, .int .u64 a2, .int .u64 a3], .agg #[.int .u64 m0, .int .u64 m1, .int .u64 m2, .int .u64 m3]] w fun e w' => e = .returned (.bool false) ∧ Below w.heap.size w w') := LM
  clear DI MO MU AD LT GT DM LM
  go_enter Try.func7, Try.ntmps7
  go_upto_region 1 with fail
  have X1 : Hid (Bx w [(w.heap.size + 1, b0, b1, b2, b3), (w.heap.size, a0, a1, a2, a3)] ((w.alloc (.cells #[.int .u64 a0, .int .u64 a1, .int .u64 a2, .int .u64 a3] 24)).alloc (.cells #[.int .u64 b0, .int .u64 b1, .int .u64 b2, .int .u64 b3] 24))) := by
    have h := ((Bx.start w).alloc a0 a1 a2 a3).alloc b0 b1 b2 b3
    simp only [World.size_alloc] at h
    exact h
  generalize ((w.alloc (.cells #[.int .u64 a0, .int .u64 a1, .int .u64 a2, .int .u64 a3] 24)).alloc (.cells #[.int .u64 b0, .int .u64 b1, .int .u64 b2, .int .u64 b3] 24)) = g2 at X1 ⊢
  obtain ⟨k3_0_0, k3_0_1, k3_0_2, k3_0_3, k3_0_4, k3_0_5, k3_0_6, k3_0_7⟩ := X1.out.f0 (List.Mem.head _)
  obtain ⟨k3_1_0, k3_1_1, k3_1_2, k3_1_3, k3_1_4, k3_1_5, k3_1_6, k3_1_7⟩ := X1.out.f0 (List.Mem.tail _ (List.Mem.head _))
  go_upto_region 2 with (first | (refine (HDI.out _).mono ?_; rintro e g5 ⟨rfl, hB⟩; (have X4 : Hid (Bx w [(w.heap.size + 1, b0, b1, b2, b3), (w.heap.size, a0, a1, a2, a3)] g5) := X1.out.past hB); clear hB X1 k3_0_0 k3_0_1 k3_0_2 k3_0_3 k3_0_4 k3_0_5 k3_0_6 k3_0_7 k3_1_0 k3_1_1 k3_1_2 k3_1_3 k3_1_4 k3_1_5 k3_1_6 k3_1_7; obtain ⟨k6_0_0, k6_0_1, k6_0_2, k6_0_3, k6_0_4, k6_0_5, k6_0_6, k6_0_7⟩ := X4.out.f0 (List.Mem.head _); obtain ⟨k6_1_0, k6_1_1, k6_1_2, k6_1_3, k6_1_4, k6_1_5, k6_1_6, k6_1_7⟩ := X4.out.f0 (List.Mem.tail _ (List.Mem.head _))))
  clear k6_0_0 k6_0_1 k6_0_2 k6_0_3 k6_0_4 k6_0_5 k6_0_6 k6_0_7 k6_1_0 k6_1_1 k6_1_2 k6_1_3 k6_1_4 k6_1_5 k6_1_6 k6_1_7
  have X9 : Hid (Bx w ((g5.heap.size, q0, q1, q2, q3) :: [(w.heap.size + 1, b0, b1, b2, b3), (w.heap.size, a0, a1, a2, a3)]) (g5.alloc (.cells #[.int .u64 q0, .int .u64 q1, .int .u64 q2, .int .u64 q3] 24))) := X4.out.alloc q0 q1 q2 q3
  have lb7_0 : w.heap.size + 1 < g5.heap.size := X4.out.lt _ (List.Mem.head _)
  have lb7_1 : w.heap.size < g5.heap.size := X4.out.lt _ (List.Mem.tail _ (List.Mem.head _))
  generalize g5.alloc (.cells #[.int .u64 q0, .int .u64 q1, .int .u64 q2, .int .u64 q3] 24) = g8 at X9 ⊢
  generalize g5.heap.size = b7 at X9 lb7_0 lb7_1 ⊢
  clear X4
  obtain ⟨k10_1_0, k10_1_1, k10_1_2, k10_1_3, k10_1_4, k10_1_5, k10_1_6, k10_1_7⟩ := X9.out.f0 (List.Mem.tail _ (List.Mem.head _))
  obtain ⟨k10_2_0, k10_2_1, k10_2_2, k10_2_3, k10_2_4, k10_2_5, k10_2_6, k10_2_7⟩ := X9.out.f0 (List.Mem.tail _ (List.Mem.tail _ (List.Mem.head _)))
  go_upto_region 3 with (first | (refine (HMO.out _).mono ?_; rintro e g12 ⟨rfl, hB⟩; (have X11 : Hid (Bx w [(b7, q0, q1, q2, q3), (w.heap.size + 1, b0, b1, b2, b3), (w.heap.size, a0, a1, a2, a3)] g12) := X9.out.past hB); clear hB X9 k10_1_0 k10_1_1 k10_1_2 k10_1_3 k10_1_4 k10_1_5 k10_1_6 k10_1_7 k10_2_0 k10_2_1 k10_2_2 k10_2_3 k10_2_4 k10_2_5 k10_2_6 k10_2_7; obtain ⟨k13_1_0, k13_1_1, k13_1_2, k13_1_3, k13_1_4, k13_1_5, k13_1_6, k13_1_7⟩ := X11.out.f0 (List.Mem.tail _ (List.Mem.head _)); obtain ⟨k13_2_0, k13_2_1, k13_2_2, k13_2_3, k13_2_4, k13_2_5, k13_2_6, k13_2_7⟩ := X11.out.f0 (List.Mem.tail _ (List.Mem.tail _ (List.Mem.head _)))))
  clear k13_1_0 k13_1_1 k13_1_2 k13_1_3 k13_1_4 k13_1_5 k13_1_6 k13_1_7 k13_2_0 k13_2_1 k13_2_2 k13_2_3 k13_2_4 k13_2_5 k13_2_6 k13_2_7
  have X16 : Hid (Bx w ((g12.heap.size, r0, r1, r2, r3) :: [(b7, q0, q1, q2, q3), (w.heap.size + 1, b0, b1, b2, b3), (w.heap.size, a0, a1, a2, a3)]) (g12.alloc (.cells #[.int .u64 r0, .int .u64 r1, .int .u64 r2, .int .u64 r3] 24))) := X11.out.alloc r0 r1 r2 r3
  have lb14_0 : b7 < g12.heap.size := X11.out.lt _ (List.Mem.head _)
  have lb14_1 : w.heap.size + 1 < g12.heap.size := X11.out.lt _ (List.Mem.tail _ (List.Mem.head _))
  have lb14_2 : w.heap.size < g12.heap.size := X11.out.lt _ (List.Mem.tail _ (List.Mem.tail _ (List.Mem.head _)))
  generalize g12.alloc (.cells #[.int .u64 r0, .int .u64 r1, .int .u64 r2, .int .u64 r3] 24) = g15 at X16 ⊢
  generalize g12.heap.size = b14 at X16 lb14_0 lb14_1 lb14_2 ⊢
  clear X11
  obtain ⟨k17_2_0, k17_2_1, k17_2_2, k17_2_3, k17_2_4, k17_2_5, k17_2_6, k17_2_7⟩ := X16.out.f0 (List.Mem.tail _ (List.Mem.tail _ (List.Mem.head _)))
  go_upto_region 5 with fail
  clear k17_2_0 k17_2_1 k17_2_2 k17_2_3 k17_2_4 k17_2_5 k17_2_6 k17_2_7
  refine wp_region_held_drew (S := fun w' => Bx w [(b14, r0, r1, r2, r3), (b7, q0, q1, q2, q3), (w.heap.size + 1, b0, b1, b2, b3), (w.heap.size, a0, a1, a2, a3)] w') (by kernel_rfl) X16.out.drew (fun hHeld => ?_)
  generalize g15.drew = g18 at hHeld ⊢
  clear X16
  refine wpAnyH_take (i := 0) (v := .agg #[.int .u64 q0, .int .u64 q1, .int .u64 q2, .int .u64 q3]) op0 (by kernel_rfl) (by kernel_rfl) (by kernel_rfl) (fun _ _ _ h => h) (Or.inl ⟨by rfl, fun W hS => ?_⟩) hHeld ?_
  · obtain ⟨c0, c1, c2, c3, _⟩ := hS.f0 (List.Mem.tail _ (List.Mem.head _))
    go_simp
  simp only [Act.put, List.setIfInBounds_toArray, List.set_cons_zero, List.set_cons_succ]
  refine wpAnyH_take (i := 1) (v := .agg #[.int .u64 b0, .int .u64 b1, .int .u64 b2, .int .u64 b3]) op1 (by kernel_rfl) (by kernel_rfl) (by kernel_rfl) (fun _ _ _ h => h) (Or.inl ⟨by rfl, fun W hS => ?_⟩) hHeld ?_
  · obtain ⟨c0, c1, c2, c3, _⟩ := hS.f0 (List.Mem.tail _ (List.Mem.tail _ (List.Mem.head _)))
    go_simp
  simp only [Act.put, List.setIfInBounds_toArray, List.set_cons_zero, List.set_cons_succ]
  refine wpAnyH_take (i := 3) (v := .agg #[.int .u64 r0, .int .u64 r1, .int .u64 r2, .int .u64 r3]) op3 (by kernel_rfl) (by kernel_rfl) (by kernel_rfl) (fun _ _ _ h => h) (Or.inl ⟨by rfl, fun W hS => ?_⟩) hHeld ?_
  · obtain ⟨c0, c1, c2, c3, _⟩ := hS.f0 (List.Mem.head _)
    go_simp
  simp only [Act.put, List.setIfInBounds_toArray, List.set_cons_zero, List.set_cons_succ]
  refine wpAnyH_take (i := 5) (v := .agg #[.int .u64 a0, .int .u64 a1, .int .u64 a2, .int .u64 a3]) op5 (by kernel_rfl) (by kernel_rfl) (by kernel_rfl) (fun _ _ _ h => h) (Or.inl ⟨by rfl, fun W hS => ?_⟩) hHeld ?_
  · obtain ⟨c0, c1, c2, c3, _⟩ := hS.f0 (List.Mem.tail _ (List.Mem.tail _ (List.Mem.tail _ (List.Mem.head _))))
    go_simp
  simp only [Act.put, List.setIfInBounds_toArray, List.set_cons_zero, List.set_cons_succ]
  refine wpAnyH_ready (rs := [2]) (by kernel_rfl) (by simp) ?_
  refine AllReadyH.cons op2 (fun K hK => ?_) AllReadyH.nil
  rw [if_pos (by rfl)]
  go_simp
  refine (HMU.out _).mono ?_
  rintro e g19 ⟨rfl, hB⟩
  have x20 : Bx w [(b14, r0, r1, r2, r3), (b7, q0, q1, q2, q3), (w.heap.size + 1, b0, b1, b2, b3), (w.heap.size, a0, a1, a2, a3)] g19 := hHeld.past hB
  clear hB hHeld
  (try go_wp2_with fail)
  refine hK.out _ _ x20 (fun _ => ?_)
  clear hK K
  refine wpAnyH_ready (rs := [4]) (by kernel_rfl) (by simp) ?_
  refine AllReadyH.cons op4 (fun K hK => ?_) AllReadyH.nil
  rw [if_pos (by rfl)]
  go_simp
  refine (HAD.out _).mono ?_
  rintro e g21 ⟨rfl, hB⟩
  have x22 : Bx w [(b14, r0, r1, r2, r3), (b7, q0, q1, q2, q3), (w.heap.size + 1, b0, b1, b2, b3), (w.heap.size, a0, a1, a2, a3)] g21 := x20.past hB
  clear hB x20
  (try go_wp2_with fail)
  refine hK.out _ _ x22 (fun _ => ?_)
  clear hK K
  refine wpAnyH_take (i := 6) (v := .bool false) op6 (by kernel_rfl) (by kernel_rfl) (by kernel_rfl) (fun _ _ _ h => h) (Or.inl ⟨by rfl, fun W hS => ?_⟩) x22 ?_
  · go_simp
  simp only [Act.put, List.setIfInBounds_toArray, List.set_cons_zero, List.set_cons_succ]
  refine wpAnyH_take (i := 7) (v := .bool false) op7 (by kernel_rfl) (by kernel_rfl) (by kernel_rfl) (fun _ _ _ h => h) (Or.inl ⟨by rfl, fun W hS => ?_⟩) x22 ?_
  · go_simp
  simp only [Act.put, List.setIfInBounds_toArray, List.set_cons_zero, List.set_cons_succ]
  refine wpAnyH_take (i := 8) (v := .agg #[.int .u64 r0, .int .u64 r1, .int .u64 r2, .int .u64 r3]) op8 (by kernel_rfl) (by kernel_rfl) (by kernel_rfl) (fun _ _ _ h => h) (Or.inl ⟨by rfl, fun W hS => ?_⟩) x22 ?_
  · obtain ⟨c0, c1, c2, c3, _⟩ := hS.f0 (List.Mem.head _)
    go_simp
  simp only [Act.put, List.setIfInBounds_toArray, List.set_cons_zero, List.set_cons_succ]
  refine wpAnyH_take (i := 9) (v := .agg #[.int .u64 b0, .int .u64 b1, .int .u64 b2, .int .u64 b3]) op9 (by kernel_rfl) (by kernel_rfl) (by kernel_rfl) (fun _ _ _ h => h) (Or.inl ⟨by rfl, fun W hS => ?_⟩) x22 ?_
  · obtain ⟨c0, c1, c2, c3, _⟩ := hS.f0 (List.Mem.tail _ (List.Mem.tail _ (List.Mem.head _)))
    go_simp
  simp only [Act.put, List.setIfInBounds_toArray, List.set_cons_zero, List.set_cons_succ]
  refine wpAnyH_ready (rs := [10]) (by kernel_rfl) (by simp) ?_
  refine AllReadyH.cons op10 (fun K hK => ?_) AllReadyH.nil
  rw [if_pos (by rfl)]
  go_simp
  refine (HLT.out _).mono ?_
  rintro e g23 ⟨rfl, hB⟩
  have x24 : Bx w [(b14, r0, r1, r2, r3), (b7, q0, q1, q2, q3), (w.heap.size + 1, b0, b1, b2, b3), (w.heap.size, a0, a1, a2, a3)] g23 := x22.past hB
  clear hB x22
  (try go_wp2_with fail)
  refine hK.out _ _ x24 (fun _ => ?_)
  clear hK K
  refine wpAnyH_take (i := 11) (v := .bool false) op11 (by kernel_rfl) (by kernel_rfl) (by kernel_rfl) (fun _ _ _ h => h) (Or.inl ⟨by rfl, fun W hS => ?_⟩) x24 ?_
  · go_simp
  simp only [Act.put, List.setIfInBounds_toArray, List.set_cons_zero, List.set_cons_succ]
  refine wpAnyH_take (i := 12) (v := .bool false) op12 (by kernel_rfl) (by kernel_rfl) (by kernel_rfl) (fun _ _ _ h => h) (Or.inl ⟨by rfl, fun W hS => ?_⟩) x24 ?_
  · go_simp
  simp only [Act.put, List.setIfInBounds_toArray, List.set_cons_zero, List.set_cons_succ]
  refine wpAnyH_take (i := 13) (v := .bool false) op13 (by kernel_rfl) (by kernel_rfl) (by kernel_rfl) (fun _ _ _ h => h) (Or.inl ⟨by rfl, fun W hS => ?_⟩) x24 ?_
  · go_simp
  simp only [Act.put, List.setIfInBounds_toArray, List.set_cons_zero, List.set_cons_succ]
  refine wpAnyH_take (i := 14) (v := .agg #[.int .u64 q0, .int .u64 q1, .int .u64 q2, .int .u64 q3]) op14 (by kernel_rfl) (by kernel_rfl) (by kernel_rfl) (fun _ _ _ h => h) (Or.inl ⟨by rfl, fun W hS => ?_⟩) x24 ?_
  · obtain ⟨c0, c1, c2, c3, _⟩ := hS.f0 (List.Mem.tail _ (List.Mem.head _))
    go_simp
  simp only [Act.put, List.setIfInBounds_toArray, List.set_cons_zero, List.set_cons_succ]
  refine wpAnyH_take (i := 15) (v := .agg #[.int .u64 a0, .int .u64 a1, .int .u64 a2, .int .u64 a3]) op15 (by kernel_rfl) (by kernel_rfl) (by kernel_rfl) (fun _ _ _ h => h) (Or.inl ⟨by rfl, fun W hS => ?_⟩) x24 ?_
  · obtain ⟨c0, c1, c2, c3, _⟩ := hS.f0 (List.Mem.tail _ (List.Mem.tail _ (List.Mem.tail _ (List.Mem.head _))))
    go_simp
  simp only [Act.put, List.setIfInBounds_toArray, List.set_cons_zero, List.set_cons_succ]
  refine wpAnyH_ready (rs := [16]) (by kernel_rfl) (by simp) ?_
  refine AllReadyH.cons op16 (fun K hK => ?_) AllReadyH.nil
  rw [if_pos (by rfl)]
  go_simp
  refine (HGT.out _).mono ?_
  rintro e g25 ⟨rfl, hB⟩
  have x26 : Bx w [(b14, r0, r1, r2, r3), (b7, q0, q1, q2, q3), (w.heap.size + 1, b0, b1, b2, b3), (w.heap.size, a0, a1, a2, a3)] g25 := x24.past hB
  clear hB x24
  (try go_wp2_with fail)
  refine hK.out _ _ x26 (fun _ => ?_)
  clear hK K
  refine wpAnyH_take (i := 17) (v := .bool false) op17 (by kernel_rfl) (by kernel_rfl) (by kernel_rfl) (fun _ _ _ h => h) (Or.inl ⟨by rfl, fun W hS => ?_⟩) x26 ?_
  · go_simp
  simp only [Act.put, List.setIfInBounds_toArray, List.set_cons_zero, List.set_cons_succ]
  refine wpAnyH_done (by kernel_rfl) ?_ _
  have X27 : Hid (Bx w [(b14, r0, r1, r2, r3), (b7, q0, q1, q2, q3), (w.heap.size + 1, b0, b1, b2, b3), (w.heap.size, a0, a1, a2, a3)] g25) := x26
  clear x26
  go_upto_region 7 with fail
  refine wp_region_held_drew (S := fun w' => Bx w [(b14, r0, r1, r2, r3), (b7, q0, q1, q2, q3), (w.heap.size + 1, b0, b1, b2, b3), (w.heap.size, a0, a1, a2, a3)] w') (by kernel_rfl) X27.out.drew (fun hHeld => ?_)
  generalize g25.drew = g28 at hHeld ⊢
  clear X27
  refine wpAnyH_take (i := 0) (v := .agg #[.int .u64 q0, .int .u64 q1, .int .u64 q2, .int .u64 q3]) op0 (by kernel_rfl) (by kernel_rfl) (by kernel_rfl) (fun _ _ _ h => h) (Or.inl ⟨by rfl, fun W hS => ?_⟩) hHeld ?_
  · obtain ⟨c0, c1, c2, c3, _⟩ := hS.f0 (List.Mem.tail _ (List.Mem.head _))
    go_simp
  simp only [Act.put, List.setIfInBounds_toArray, List.set_cons_zero, List.set_cons_succ]
  refine wpAnyH_take (i := 1) (v := .agg #[.int .u64 0, .int .u64 0, .int .u64 0, .int .u64 0]) op1 (by kernel_rfl) (by kernel_rfl) (by kernel_rfl) (fun _ _ _ h => h) (Or.inl ⟨by rfl, fun W hS => ?_⟩) hHeld ?_
  · go_simp
  simp only [Act.put, List.setIfInBounds_toArray, List.set_cons_zero, List.set_cons_succ]
  refine wpAnyH_take (i := 2) (v := .bool false) op2 (by kernel_rfl) (by kernel_rfl) (by kernel_rfl) (fun _ _ _ h => h) (Or.inl ⟨by rfl, fun W hS => ?_⟩) hHeld ?_
  · go_simp
  simp only [Act.put, List.setIfInBounds_toArray, List.set_cons_zero, List.set_cons_succ]
  refine wpAnyH_take (i := 3) (v := .bool false) op3 (by kernel_rfl) (by kernel_rfl) (by kernel_rfl) (fun _ _ _ h => h) (Or.inl ⟨by rfl, fun W hS => ?_⟩) hHeld ?_
  · go_simp
  simp only [Act.put, List.setIfInBounds_toArray, List.set_cons_zero, List.set_cons_succ]
  refine wpAnyH_take (i := 4) (v := .agg #[.int .u64 q0, .int .u64 q1, .int .u64 q2, .int .u64 q3]) op4 (by kernel_rfl) (by kernel_rfl) (by kernel_rfl) (fun _ _ _ h => h) (Or.inl ⟨by rfl, fun W hS => ?_⟩) hHeld ?_
  · obtain ⟨c0, c1, c2, c3, _⟩ := hS.f0 (List.Mem.tail _ (List.Mem.head _))
    go_simp
  simp only [Act.put, List.setIfInBounds_toArray, List.set_cons_zero, List.set_cons_succ]
  refine wpAnyH_take (i := 5) (v := .agg #[.int .u64 b0, .int .u64 b1, .int .u64 b2, .int .u64 b3]) op5 (by kernel_rfl) (by kernel_rfl) (by kernel_rfl) (fun _ _ _ h => h) (Or.inl ⟨by rfl, fun W hS => ?_⟩) hHeld ?_
  · obtain ⟨c0, c1, c2, c3, _⟩ := hS.f0 (List.Mem.tail _ (List.Mem.tail _ (List.Mem.head _)))
    go_simp
  simp only [Act.put, List.setIfInBounds_toArray, List.set_cons_zero, List.set_cons_succ]
  refine wpAnyH_take (i := 7) (v := .agg #[.int .u64 b0, .int .u64 b1, .int .u64 b2, .int .u64 b3]) op7 (by kernel_rfl) (by kernel_rfl) (by kernel_rfl) (fun _ _ _ h => h) (Or.inl ⟨by rfl, fun W hS => ?_⟩) hHeld ?_
  · obtain ⟨c0, c1, c2, c3, _⟩ := hS.f0 (List.Mem.tail _ (List.Mem.tail _ (List.Mem.head _)))
    go_simp
  simp only [Act.put, List.setIfInBounds_toArray, List.set_cons_zero, List.set_cons_succ]
  refine wpAnyH_take (i := 9) (v := .agg #[.int .u64 q0, .int .u64 q1, .int .u64 q2, .int .u64 q3]) op9 (by kernel_rfl) (by kernel_rfl) (by kernel_rfl) (fun _ _ _ h => h) (Or.inl ⟨by rfl, fun W hS => ?_⟩) hHeld ?_
  · obtain ⟨c0, c1, c2, c3, _⟩ := hS.f0 (List.Mem.tail _ (List.Mem.head _))
    go_simp
  simp only [Act.put, List.setIfInBounds_toArray, List.set_cons_zero, List.set_cons_succ]
  refine wpAnyH_ready (rs := [6]) (by kernel_rfl) (by simp) ?_
  refine AllReadyH.cons op6 (fun K hK => ?_) AllReadyH.nil
  rw [if_pos (by rfl)]
  go_simp
  refine (HMU.out _).mono ?_
  rintro e g29 ⟨rfl, hB⟩
  have x30 : Bx w [(b14, r0, r1, r2, r3), (b7, q0, q1, q2, q3), (w.heap.size + 1, b0, b1, b2, b3), (w.heap.size, a0, a1, a2, a3)] g29 := hHeld.past hB
  clear hB hHeld
  (try go_wp2_with fail)
  refine hK.out _ _ x30 (fun _ => ?_)
  clear hK K
  refine wpAnyH_ready (rs := [8]) (by kernel_rfl) (by simp) ?_
  refine AllReadyH.cons op8 (fun K hK => ?_) AllReadyH.nil
  rw [if_pos (by rfl)]
  go_simp
  refine (HDM.out _).mono ?_
  rintro e g31 ⟨rfl, hB⟩
  have x32 : Bx w [(b14, r0, r1, r2, r3), (b7, q0, q1, q2, q3), (w.heap.size + 1, b0, b1, b2, b3), (w.heap.size, a0, a1, a2, a3)] g31 := x30.past hB
  clear hB x30
  (try go_wp2_with fail)
  refine hK.out _ _ x32 (fun _ => ?_)
  clear hK K
  refine wpAnyH_take (i := 10) (v := .bool true) op10 (by kernel_rfl) (by kernel_rfl) (by kernel_rfl) (fun _ _ _ h => h) (Or.inl ⟨by rfl, fun W hS => ?_⟩) x32 ?_
  · go_simp
  simp only [Act.put, List.setIfInBounds_toArray, List.set_cons_zero, List.set_cons_succ]
  refine wpAnyH_take (i := 11) (v := .bool true) op11 (by kernel_rfl) (by kernel_rfl) (by kernel_rfl) (fun _ _ _ h => h) (Or.inl ⟨by rfl, fun W hS => ?_⟩) x32 ?_
  · go_simp
  simp only [Act.put, List.setIfInBounds_toArray, List.set_cons_zero, List.set_cons_succ]
  refine wpAnyH_take (i := 12) (v := .agg #[.int .u64 a0, .int .u64 a1, .int .u64 a2, .int .u64 a3]) op12 (by kernel_rfl) (by kernel_rfl) (by kernel_rfl) (fun _ _ _ h => h) (Or.inl ⟨by rfl, fun W hS => ?_⟩) x32 ?_
  · obtain ⟨c0, c1, c2, c3, _⟩ := hS.f0 (List.Mem.tail _ (List.Mem.tail _ (List.Mem.tail _ (List.Mem.head _))))
    go_simp
  simp only [Act.put, List.setIfInBounds_toArray, List.set_cons_zero, List.set_cons_succ]
  refine wpAnyH_take (i := 13) (v := .agg #[.int .u64 q0, .int .u64 q1, .int .u64 q2, .int .u64 q3]) op13 (by kernel_rfl) (by kernel_rfl) (by kernel_rfl) (fun _ _ _ h => h) (Or.inl ⟨by rfl, fun W hS => ?_⟩) x32 ?_
  · obtain ⟨c0, c1, c2, c3, _⟩ := hS.f0 (List.Mem.tail _ (List.Mem.head _))
    go_simp
  simp only [Act.put, List.setIfInBounds_toArray, List.set_cons_zero, List.set_cons_succ]
  refine wpAnyH_take (i := 14) (v := .agg #[.int .u64 b0, .int .u64 b1, .int .u64 b2, .int .u64 b3]) op14 (by kernel_rfl) (by kernel_rfl) (by kernel_rfl) (fun _ _ _ h => h) (Or.inl ⟨by rfl, fun W hS => ?_⟩) x32 ?_
  · obtain ⟨c0, c1, c2, c3, _⟩ := hS.f0 (List.Mem.tail _ (List.Mem.tail _ (List.Mem.head _)))
    go_simp
  simp only [Act.put, List.setIfInBounds_toArray, List.set_cons_zero, List.set_cons_succ]
  refine wpAnyH_ready (rs := [15]) (by kernel_rfl) (by simp) ?_
  refine AllReadyH.cons op15 (fun K hK => ?_) AllReadyH.nil
  rw [if_pos (by rfl)]
  go_simp
  refine (HMU.out _).mono ?_
  rintro e g33 ⟨rfl, hB⟩
  have x34 : Bx w [(b14, r0, r1, r2, r3), (b7, q0, q1, q2, q3), (w.heap.size + 1, b0, b1, b2, b3), (w.heap.size, a0, a1, a2, a3)] g33 := x32.past hB
  clear hB x32
  (try go_wp2_with fail)
  refine hK.out _ _ x34 (fun _ => ?_)
  clear hK K
  refine wpAnyH_ready (rs := [16]) (by kernel_rfl) (by simp) ?_
  refine AllReadyH.cons op16 (fun K hK => ?_) AllReadyH.nil
  rw [if_pos (by rfl)]
  go_simp
  refine (HLM.out _).mono ?_
  rintro e g35 ⟨rfl, hB⟩
  have x36 : Bx w [(b14, r0, r1, r2, r3), (b7, q0, q1, q2, q3), (w.heap.size + 1, b0, b1, b2, b3), (w.heap.size, a0, a1, a2, a3)] g35 := x34.past hB
  clear hB x34
  (try go_wp2_with fail)
  refine hK.out _ _ x36 (fun _ => ?_)
  clear hK K
  refine wpAnyH_take (i := 17) (v := .bool true) op17 (by kernel_rfl) (by kernel_rfl) (by kernel_rfl) (fun _ _ _ h => h) (Or.inl ⟨by rfl, fun W hS => ?_⟩) x36 ?_
  · go_simp
  simp only [Act.put, List.setIfInBounds_toArray, List.set_cons_zero, List.set_cons_succ]
  refine wpAnyH_take (i := 18) (v := .bool true) op18 (by kernel_rfl) (by kernel_rfl) (by kernel_rfl) (fun _ _ _ h => h) (Or.inl ⟨by rfl, fun W hS => ?_⟩) x36 ?_
  · go_simp
  simp only [Act.put, List.setIfInBounds_toArray, List.set_cons_zero, List.set_cons_succ]
  refine wpAnyH_take (i := 19) (v := .bool true) op19 (by kernel_rfl) (by kernel_rfl) (by kernel_rfl) (fun _ _ _ h => h) (Or.inl ⟨by rfl, fun W hS => ?_⟩) x36 ?_
  · go_simp
  simp only [Act.put, List.setIfInBounds_toArray, List.set_cons_zero, List.set_cons_succ]
  refine wpAnyH_take (i := 20) (v := .bool true) op20 (by kernel_rfl) (by kernel_rfl) (by kernel_rfl) (fun _ _ _ h => h) (Or.inl ⟨by rfl, fun W hS => ?_⟩) x36 ?_
  · go_simp
  simp only [Act.put, List.setIfInBounds_toArray, List.set_cons_zero, List.set_cons_succ]
  refine wpAnyH_ready (rs := [21]) (by kernel_rfl) (by simp) ?_
  refine AllReadyH.cons op21 (fun K hK => ?_) AllReadyH.nil
  rw [if_pos (by rfl)]
  go_simp
  refine (awake_any _).mono ?_
  rintro e g37 ⟨rfl, hB⟩
  have x38 : Bx w [(b14, r0, r1, r2, r3), (b7, q0, q1, q2, q3), (w.heap.size + 1, b0, b1, b2, b3), (w.heap.size, a0, a1, a2, a3)] g37 := x36.past hB
  clear hB x36
  (try go_wp2_with fail)
  refine hK.out _ _ x38 (fun _ => ?_)
  clear hK K
  refine wpAnyH_take (i := 22) (v := .bool true) op22 (by kernel_rfl) (by kernel_rfl) (by kernel_rfl) (fun _ _ _ h => h) (Or.inl ⟨by rfl, fun W hS => ?_⟩) x38 ?_
  · go_simp
  simp only [Act.put, List.setIfInBounds_toArray, List.set_cons_zero, List.set_cons_succ]
  refine wpAnyH_take (i := 23) (v := .bool true) op23 (by kernel_rfl) (by kernel_rfl) (by kernel_rfl) (fun _ _ _ h => h) (Or.inl ⟨by rfl, fun W hS => ?_⟩) x38 ?_
  · go_simp
  simp only [Act.put, List.setIfInBounds_toArray, List.set_cons_zero, List.set_cons_succ]
  refine wpAnyH_done (by kernel_rfl) ?_ _
  have X39 : Hid (Bx w [(b14, r0, r1, r2, r3), (b7, q0, q1, q2, q3), (w.heap.size + 1, b0, b1, b2, b3), (w.heap.size, a0, a1, a2, a3)] g37) := x38
  clear x38
  go_wp2
  go_ret
  exact ⟨rfl, X39.out.bel⟩
theorem wordDivides_walk (x y : Int) (a0 a1 a2 a3 b0 b1 b2 b3 : Int) (w : World) (ha : IsW x a0 a1 a2 a3) (hb : IsW y b0 b1 b2 b3) :
    Calls Try.prog 7 #[.agg #[.int .u64 a0, .int .u64 a1, .int .u64 a2, .int .u64 a3], .agg #[.int .u64 b0, .int .u64 b1, .int .u64 b2, .int .u64 b3]] w fun e w' => e = .returned (.bool true) ∧ Below w.heap.size w w' := by
  have hm := MM_pos
  obtain ⟨X, hX⟩ : ∃ X, x % MM = X := ⟨_, rfl⟩
  obtain ⟨Y, hY⟩ : ∃ Y, y % MM = Y := ⟨_, rfl⟩
  have X0 : 0 ≤ X := by rw [← hX]; exact Int.emod_nonneg _ (by omega)
  have X1 : X < MM := by rw [← hX]; exact Int.emod_lt_of_pos _ hm
  have Y0 : 0 ≤ Y := by rw [← hY]; exact Int.emod_nonneg _ (by omega)
  have Y1 : Y < MM := by rw [← hY]; exact Int.emod_lt_of_pos _ hm
  have hXX : X % MM = X := Int.emod_eq_of_lt X0 X1
  have hYY : Y % MM = Y := Int.emod_eq_of_lt Y0 Y1
  have hax : IsW X a0 a1 a2 a3 := ha.cong (by rw [hX, hXX])
  have hby : IsW Y b0 b1 b2 b3 := hb.cong (by rw [hY, hYY])
  clear hX hY ha hb
  by_cases hz : Y = 0
  · subst hz
    obtain ⟨rfl, rfl, rfl, rfl⟩ := hby.eq isW_0 rfl
    exact wdi_zero a0 a1 a2 a3 (fun w => div_is X 0 a0 a1 a2 a3 0 0 0 0 0 0 0 0 w hax isW_0 (by rw [show dv (X % MM) (0 % MM) = 0 by simp [dv]]; exact isW_0)) (fun w => mod_is X 0 a0 a1 a2 a3 0 0 0 0 0 0 0 0 w hax isW_0 (by rw [show md (X % MM) (0 % MM) = 0 by simp [md]]; exact isW_0)) w
  · have Yp : 0 < Y := by omega
    obtain ⟨Q, hQ⟩ : ∃ Q, X / Y = Q := ⟨_, rfl⟩
    obtain ⟨R, hR⟩ : ∃ R, X % Y = R := ⟨_, rfl⟩
    have hE : Y * Q + R = X := by rw [← hQ, ← hR]; exact Int.mul_ediv_add_emod X Y
    have R0 : 0 ≤ R := by rw [← hR]; exact Int.emod_nonneg _ (by omega)
    have R1 : R < Y := by rw [← hR]; exact Int.emod_lt_of_pos _ Yp
    have Q0 : 0 ≤ Q := by rw [← hQ]; exact Int.ediv_nonneg X0 Y0
    have Q1 : Q ≤ X := by rw [← hQ]; exact Int.ediv_le_self Y X0
    obtain ⟨M, hM⟩ : ∃ M, Q * Y = M := ⟨_, rfl⟩
    have hM2 : Y * Q = M := by rw [Int.mul_comm]; exact hM
    have M0 : 0 ≤ M := by rw [← hM]; exact Int.mul_nonneg Q0 Y0
    have hMX : M + R = X := by omega
    have hMQ : M / Y = Q := by rw [← hM]; exact Int.mul_ediv_cancel _ hz
    have small : ∀ v : Int, 0 ≤ v → v < MM → v % MM = v := fun v h0 h1 => Int.emod_eq_of_lt h0 h1
    have hQQ := small Q Q0 (by omega)
    have hRR := small R R0 (by omega)
    have hMM' := small M M0 (by omega)
    obtain ⟨q0, q1, q2, q3, iq⟩ := isW_ex Q
    obtain ⟨r0, r1, r2, r3, ir⟩ := isW_ex R
    obtain ⟨m0, m1, m2, m3, im⟩ := isW_ex M
    have DI : ∀ w : World, Calls Try.prog 38 #[.agg #[.int .u64 a0, .int .u64 a1, .int .u64 a2, .int .u64 a3], .agg #[.int .u64 b0, .int .u64 b1, .int .u64 b2, .int .u64 b3]] w fun e w' => e = .returned (.agg #[.int .u64 q0, .int .u64 q1, .int .u64 q2, .int .u64 q3]) ∧ Below w.heap.size w w' := fun w => div_is X Y a0 a1 a2 a3 b0 b1 b2 b3 q0 q1 q2 q3 w hax hby (by rw [hXX, hYY, dv, hQ]; exact iq)
    have MO : ∀ w : World, Calls Try.prog 39 #[.agg #[.int .u64 a0, .int .u64 a1, .int .u64 a2, .int .u64 a3], .agg #[.int .u64 b0, .int .u64 b1, .int .u64 b2, .int .u64 b3]] w fun e w' => e = .returned (.agg #[.int .u64 r0, .int .u64 r1, .int .u64 r2, .int .u64 r3]) ∧ Below w.heap.size w w' := fun w => mod_is X Y a0 a1 a2 a3 b0 b1 b2 b3 r0 r1 r2 r3 w hax hby (by rw [hXX, hYY, md, if_neg hz, hR]; exact ir)
    have MU : ∀ w : World, Calls Try.prog 35 #[.agg #[.int .u64 q0, .int .u64 q1, .int .u64 q2, .int .u64 q3], .agg #[.int .u64 b0, .int .u64 b1, .int .u64 b2, .int .u64 b3]] w fun e w' => e = .returned (.agg #[.int .u64 m0, .int .u64 m1, .int .u64 m2, .int .u64 m3]) ∧ Below w.heap.size w w' := fun w => mul_is Q Y q0 q1 q2 q3 b0 b1 b2 b3 m0 m1 m2 m3 w iq hby (by rw [hM]; exact im)
    have AD : ∀ w : World, Calls Try.prog 33 #[.agg #[.int .u64 m0, .int .u64 m1, .int .u64 m2, .int .u64 m3], .agg #[.int .u64 r0, .int .u64 r1, .int .u64 r2, .int .u64 r3]] w fun e w' => e = .returned (.agg #[.int .u64 a0, .int .u64 a1, .int .u64 a2, .int .u64 a3]) ∧ Below w.heap.size w w' := fun w => add_is M R m0 m1 m2 m3 r0 r1 r2 r3 a0 a1 a2 a3 w im ir (by rw [hMX]; exact hax)
    have LT : ∀ w : World, Calls Try.prog 20 #[.agg #[.int .u64 r0, .int .u64 r1, .int .u64 r2, .int .u64 r3], .agg #[.int .u64 b0, .int .u64 b1, .int .u64 b2, .int .u64 b3]] w fun e w' => e = .returned (.bool true) ∧ Below w.heap.size w w' := fun w => lt_is r0 r1 r2 r3 b0 b1 b2 b3 w ir hby true (by rw [hRR, hYY]; simpa using R1)
    have GT : ∀ w : World, Calls Try.prog 22 #[.agg #[.int .u64 q0, .int .u64 q1, .int .u64 q2, .int .u64 q3], .agg #[.int .u64 a0, .int .u64 a1, .int .u64 a2, .int .u64 a3]] w fun e w' => e = .returned (.bool false) ∧ Below w.heap.size w w' := fun w => gt_is q0 q1 q2 q3 a0 a1 a2 a3 w iq hax false (by rw [hQQ, hXX]; simp; omega)
    have E0 := eqw_un b0 b1 b2 b3 0 0 0 0 hby isW_0 (by rw [hYY]; simpa using hz)
    by_cases hq : Q = 0
    · subst hq
      obtain ⟨rfl, rfl, rfl, rfl⟩ := iq.eq isW_0 rfl
      exact wdi_less a0 a1 a2 a3 b0 b1 b2 b3 r0 r1 r2 r3 m0 m1 m2 m3 DI MO MU AD LT GT E0 w
    · exact wdi_more a0 a1 a2 a3 b0 b1 b2 b3 q0 q1 q2 q3 r0 r1 r2 r3 m0 m1 m2 m3 DI MO MU AD LT GT (fun w => div_is M Y m0 m1 m2 m3 b0 b1 b2 b3 q0 q1 q2 q3 w im hby (by rw [hMM', hYY, dv, hMQ]; exact iq)) (fun w => lt_is a0 a1 a2 a3 m0 m1 m2 m3 w hax im false (by rw [hXX, hMM']; simp; omega)) E0 (eqw_un q0 q1 q2 q3 0 0 0 0 iq isW_0 (by rw [hQQ]; simpa using hq)) w
end Go.Proofs.Ytpadpmkfhljiiaa
