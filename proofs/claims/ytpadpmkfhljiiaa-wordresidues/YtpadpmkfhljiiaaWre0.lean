/- WordResidues: the walk, case by case. -/
import Derived.Test.YtpadpmkfhljiiaaFb
import Derived.Test.YtpadpmkfhljiiaaFc
import Derived.Test.YtpadpmkfhljiiaaWe
import Derived.Test.YtpadpmkfhljiiaaWis
import Derived.Test.YtpadpmkfhljiiaaWd
namespace Go.Proofs.Ytpadpmkfhljiiaa
open Go.RowKit
set_option maxHeartbeats 4000000 in
set_option maxRecDepth 100000 in
theorem wre_0 (a0 a1 a2 a3 b0 b1 b2 b3 : Int) (AX : ∀ w : World, Calls Try.prog 44 #[.agg #[.int .u64 a0, .int .u64 a1, .int .u64 a2, .int .u64 a3], .agg #[.int .u64 b0, .int .u64 b1, .int .u64 b2, .int .u64 b3], .agg #[.int .u64 0, .int .u64 0, .int .u64 0, .int .u64 0]] w fun e w' => e = .returned (.agg #[.int .u64 0, .int .u64 0, .int .u64 0, .int .u64 0]) ∧ Below w.heap.size w w') (MX : ∀ w : World, Calls Try.prog 45 #[.agg #[.int .u64 a0, .int .u64 a1, .int .u64 a2, .int .u64 a3], .agg #[.int .u64 b0, .int .u64 b1, .int .u64 b2, .int .u64 b3], .agg #[.int .u64 0, .int .u64 0, .int .u64 0, .int .u64 0]] w fun e w' => e = .returned (.agg #[.int .u64 0, .int .u64 0, .int .u64 0, .int .u64 0]) ∧ Below w.heap.size w w') (w : World) :
    Calls Try.prog 9 #[.agg #[.int .u64 a0, .int .u64 a1, .int .u64 a2, .int .u64 a3], .agg #[.int .u64 b0, .int .u64 b1, .int .u64 b2, .int .u64 b3], .agg #[.int .u64 0, .int .u64 0, .int .u64 0, .int .u64 0]] w fun e w' => e = .returned (.bool true) ∧ Below w.heap.size w w' := by
  have eqs := eqw_same
  have HAX : Hid (∀ w : World, Calls Try.prog 44 #[.agg #[.int .u64 a0, .int .u64 a1, .int .u64 a2, .int .u64 a3], .agg #[.int .u64 b0, .int .u64 b1, .int .u64 b2, .int .u64 b3], .agg #[.int .u64 0, .int .u64 0, .int .u64 0, .int .u64 0]] w fun e w' => e = .returned (.agg #[.int .u64 0, .int .u64 0, .int .u64 0, .int .u64 0]) ∧ Below w.heap.size w w') := AX
  have HMX : Hid (∀ w : World, Calls Try.prog 45 #[.agg #[.int .u64 a0, .int .u64 a1, .int .u64 a2, .int .u64 a3], .agg #[.int .u64 b0, .int .u64 b1, .int .u64 b2, .int .u64 b3], .agg #[.int .u64 0, .int .u64 0, .int .u64 0, .int .u64 0]] w fun e w' => e = .returned (.agg #[.int .u64 0, .int .u64 0, .int .u64 0, .int .u64 0]) ∧ Below w.heap.size w w') := MX
  clear AX MX
  go_enter Try.func9, Try.ntmps9
  go_upto_region 1 with fail
  have X1 : Hid (Bx w [(w.heap.size + 1 + 1, 0, 0, 0, 0), (w.heap.size + 1, b0, b1, b2, b3), (w.heap.size, a0, a1, a2, a3)] (((w.alloc (.cells #[.int .u64 a0, .int .u64 a1, .int .u64 a2, .int .u64 a3] 24)).alloc (.cells #[.int .u64 b0, .int .u64 b1, .int .u64 b2, .int .u64 b3] 24)).alloc (.cells #[.int .u64 0, .int .u64 0, .int .u64 0, .int .u64 0] 24))) := by
    have h := (((Bx.start w).alloc a0 a1 a2 a3).alloc b0 b1 b2 b3).alloc 0 0 0 0
    (try simp only [World.size_alloc] at h)
    exact h
  generalize (((w.alloc (.cells #[.int .u64 a0, .int .u64 a1, .int .u64 a2, .int .u64 a3] 24)).alloc (.cells #[.int .u64 b0, .int .u64 b1, .int .u64 b2, .int .u64 b3] 24)).alloc (.cells #[.int .u64 0, .int .u64 0, .int .u64 0, .int .u64 0] 24)) = g2 at X1 ⊢
  obtain ⟨k3_0_0, k3_0_1, k3_0_2, k3_0_3, k3_0_4, k3_0_5, k3_0_6, k3_0_7⟩ := X1.out.f0 (List.Mem.head _)
  obtain ⟨k3_1_0, k3_1_1, k3_1_2, k3_1_3, k3_1_4, k3_1_5, k3_1_6, k3_1_7⟩ := X1.out.f0 (List.Mem.tail _ (List.Mem.head _))
  obtain ⟨k3_2_0, k3_2_1, k3_2_2, k3_2_3, k3_2_4, k3_2_5, k3_2_6, k3_2_7⟩ := X1.out.f0 (List.Mem.tail _ (List.Mem.tail _ (List.Mem.head _)))
  go_upto_region 2 with (first | (go_at_call 44; refine (HAX.out _).mono ?_; rintro e g5 ⟨rfl, hB⟩; (have X4 : Hid (Bx w [(w.heap.size + 1 + 1, 0, 0, 0, 0), (w.heap.size + 1, b0, b1, b2, b3), (w.heap.size, a0, a1, a2, a3)] g5) := X1.out.past hB); clear hB X1 k3_0_0 k3_0_1 k3_0_2 k3_0_3 k3_0_4 k3_0_5 k3_0_6 k3_0_7 k3_1_0 k3_1_1 k3_1_2 k3_1_3 k3_1_4 k3_1_5 k3_1_6 k3_1_7 k3_2_0 k3_2_1 k3_2_2 k3_2_3 k3_2_4 k3_2_5 k3_2_6 k3_2_7; obtain ⟨k6_0_0, k6_0_1, k6_0_2, k6_0_3, k6_0_4, k6_0_5, k6_0_6, k6_0_7⟩ := X4.out.f0 (List.Mem.head _); obtain ⟨k6_1_0, k6_1_1, k6_1_2, k6_1_3, k6_1_4, k6_1_5, k6_1_6, k6_1_7⟩ := X4.out.f0 (List.Mem.tail _ (List.Mem.head _)); obtain ⟨k6_2_0, k6_2_1, k6_2_2, k6_2_3, k6_2_4, k6_2_5, k6_2_6, k6_2_7⟩ := X4.out.f0 (List.Mem.tail _ (List.Mem.tail _ (List.Mem.head _)))))
  clear k6_0_0 k6_0_1 k6_0_2 k6_0_3 k6_0_4 k6_0_5 k6_0_6 k6_0_7 k6_1_0 k6_1_1 k6_1_2 k6_1_3 k6_1_4 k6_1_5 k6_1_6 k6_1_7 k6_2_0 k6_2_1 k6_2_2 k6_2_3 k6_2_4 k6_2_5 k6_2_6 k6_2_7
  have X9 : Hid (Bx w ((g5.heap.size, 0, 0, 0, 0) :: [(w.heap.size + 1 + 1, 0, 0, 0, 0), (w.heap.size + 1, b0, b1, b2, b3), (w.heap.size, a0, a1, a2, a3)]) (g5.alloc (.cells #[.int .u64 0, .int .u64 0, .int .u64 0, .int .u64 0] 24))) := X4.out.alloc 0 0 0 0
  have lbk7_0 : w.heap.size + 1 + 1 < g5.heap.size := X4.out.lt _ (List.Mem.head _)
  have lbk7_1 : w.heap.size + 1 < g5.heap.size := X4.out.lt _ (List.Mem.tail _ (List.Mem.head _))
  have lbk7_2 : w.heap.size < g5.heap.size := X4.out.lt _ (List.Mem.tail _ (List.Mem.tail _ (List.Mem.head _)))
  generalize g5.alloc (.cells #[.int .u64 0, .int .u64 0, .int .u64 0, .int .u64 0] 24) = g8 at X9 ⊢
  generalize g5.heap.size = bk7 at X9 lbk7_0 lbk7_1 lbk7_2 ⊢
  clear X4
  obtain ⟨k10_1_0, k10_1_1, k10_1_2, k10_1_3, k10_1_4, k10_1_5, k10_1_6, k10_1_7⟩ := X9.out.f0 (List.Mem.tail _ (List.Mem.head _))
  obtain ⟨k10_2_0, k10_2_1, k10_2_2, k10_2_3, k10_2_4, k10_2_5, k10_2_6, k10_2_7⟩ := X9.out.f0 (List.Mem.tail _ (List.Mem.tail _ (List.Mem.head _)))
  obtain ⟨k10_3_0, k10_3_1, k10_3_2, k10_3_3, k10_3_4, k10_3_5, k10_3_6, k10_3_7⟩ := X9.out.f0 (List.Mem.tail _ (List.Mem.tail _ (List.Mem.tail _ (List.Mem.head _))))
  go_upto_region 3 with (first | (go_at_call 45; refine (HMX.out _).mono ?_; rintro e g12 ⟨rfl, hB⟩; (have X11 : Hid (Bx w [(bk7, 0, 0, 0, 0), (w.heap.size + 1 + 1, 0, 0, 0, 0), (w.heap.size + 1, b0, b1, b2, b3), (w.heap.size, a0, a1, a2, a3)] g12) := X9.out.past hB); clear hB X9 k10_1_0 k10_1_1 k10_1_2 k10_1_3 k10_1_4 k10_1_5 k10_1_6 k10_1_7 k10_2_0 k10_2_1 k10_2_2 k10_2_3 k10_2_4 k10_2_5 k10_2_6 k10_2_7 k10_3_0 k10_3_1 k10_3_2 k10_3_3 k10_3_4 k10_3_5 k10_3_6 k10_3_7; obtain ⟨k13_1_0, k13_1_1, k13_1_2, k13_1_3, k13_1_4, k13_1_5, k13_1_6, k13_1_7⟩ := X11.out.f0 (List.Mem.tail _ (List.Mem.head _)); obtain ⟨k13_2_0, k13_2_1, k13_2_2, k13_2_3, k13_2_4, k13_2_5, k13_2_6, k13_2_7⟩ := X11.out.f0 (List.Mem.tail _ (List.Mem.tail _ (List.Mem.head _))); obtain ⟨k13_3_0, k13_3_1, k13_3_2, k13_3_3, k13_3_4, k13_3_5, k13_3_6, k13_3_7⟩ := X11.out.f0 (List.Mem.tail _ (List.Mem.tail _ (List.Mem.tail _ (List.Mem.head _))))))
  clear k13_1_0 k13_1_1 k13_1_2 k13_1_3 k13_1_4 k13_1_5 k13_1_6 k13_1_7 k13_2_0 k13_2_1 k13_2_2 k13_2_3 k13_2_4 k13_2_5 k13_2_6 k13_2_7 k13_3_0 k13_3_1 k13_3_2 k13_3_3 k13_3_4 k13_3_5 k13_3_6 k13_3_7
  have X16 : Hid (Bx w ((g12.heap.size, 0, 0, 0, 0) :: [(bk7, 0, 0, 0, 0), (w.heap.size + 1 + 1, 0, 0, 0, 0), (w.heap.size + 1, b0, b1, b2, b3), (w.heap.size, a0, a1, a2, a3)]) (g12.alloc (.cells #[.int .u64 0, .int .u64 0, .int .u64 0, .int .u64 0] 24))) := X11.out.alloc 0 0 0 0
  have lbk14_0 : bk7 < g12.heap.size := X11.out.lt _ (List.Mem.head _)
  have lbk14_1 : w.heap.size + 1 + 1 < g12.heap.size := X11.out.lt _ (List.Mem.tail _ (List.Mem.head _))
  have lbk14_2 : w.heap.size + 1 < g12.heap.size := X11.out.lt _ (List.Mem.tail _ (List.Mem.tail _ (List.Mem.head _)))
  have lbk14_3 : w.heap.size < g12.heap.size := X11.out.lt _ (List.Mem.tail _ (List.Mem.tail _ (List.Mem.tail _ (List.Mem.head _))))
  generalize g12.alloc (.cells #[.int .u64 0, .int .u64 0, .int .u64 0, .int .u64 0] 24) = g15 at X16 ⊢
  generalize g12.heap.size = bk14 at X16 lbk14_0 lbk14_1 lbk14_2 lbk14_3 ⊢
  clear X11
  obtain ⟨k17_2_0, k17_2_1, k17_2_2, k17_2_3, k17_2_4, k17_2_5, k17_2_6, k17_2_7⟩ := X16.out.f0 (List.Mem.tail _ (List.Mem.tail _ (List.Mem.head _)))
  go_upto_region 4 with fail
  clear k17_2_0 k17_2_1 k17_2_2 k17_2_3 k17_2_4 k17_2_5 k17_2_6 k17_2_7
  obtain ⟨k18_0_0, k18_0_1, k18_0_2, k18_0_3, k18_0_4, k18_0_5, k18_0_6, k18_0_7⟩ := X16.out.f0 (List.Mem.head _)
  obtain ⟨k18_1_0, k18_1_1, k18_1_2, k18_1_3, k18_1_4, k18_1_5, k18_1_6, k18_1_7⟩ := X16.out.f0 (List.Mem.tail _ (List.Mem.head _))
  obtain ⟨k18_2_0, k18_2_1, k18_2_2, k18_2_3, k18_2_4, k18_2_5, k18_2_6, k18_2_7⟩ := X16.out.f0 (List.Mem.tail _ (List.Mem.tail _ (List.Mem.head _)))
  go_wp2_with (first | (go_at_call 19; refine (awake_any _).mono ?_; rintro e g20 ⟨rfl, hB⟩; (have X19 : Hid (Bx w [(bk14, 0, 0, 0, 0), (bk7, 0, 0, 0, 0), (w.heap.size + 1 + 1, 0, 0, 0, 0), (w.heap.size + 1, b0, b1, b2, b3), (w.heap.size, a0, a1, a2, a3)] g20) := X16.out.past hB); clear hB X16 k18_0_0 k18_0_1 k18_0_2 k18_0_3 k18_0_4 k18_0_5 k18_0_6 k18_0_7 k18_1_0 k18_1_1 k18_1_2 k18_1_3 k18_1_4 k18_1_5 k18_1_6 k18_1_7 k18_2_0 k18_2_1 k18_2_2 k18_2_3 k18_2_4 k18_2_5 k18_2_6 k18_2_7; obtain ⟨k21_0_0, k21_0_1, k21_0_2, k21_0_3, k21_0_4, k21_0_5, k21_0_6, k21_0_7⟩ := X19.out.f0 (List.Mem.head _); obtain ⟨k21_1_0, k21_1_1, k21_1_2, k21_1_3, k21_1_4, k21_1_5, k21_1_6, k21_1_7⟩ := X19.out.f0 (List.Mem.tail _ (List.Mem.head _)); obtain ⟨k21_2_0, k21_2_1, k21_2_2, k21_2_3, k21_2_4, k21_2_5, k21_2_6, k21_2_7⟩ := X19.out.f0 (List.Mem.tail _ (List.Mem.tail _ (List.Mem.head _)))))
  go_ret
  exact ⟨rfl, X19.out.bel⟩
end Go.Proofs.Ytpadpmkfhljiiaa
