/- The document's SDiv, SMod, SLt, SGt. -/
import Derived.Test.YtpadpmkfhljiiaaGreatMp5
import Derived.Test.YtpadpmkfhljiiaaGreatMp10
import Derived.Test.YtpadpmkfhljiiaaGreatMp9
import Derived.Test.YtpadpmkfhljiiaaGreatMp2
namespace Go.Proofs.YtpadpmkfhljiiaaGreat
open Go.RowKit
set_option maxHeartbeats 4000000 in
set_option maxRecDepth 100000 in
theorem rsdiv_z (a0 a1 a2 a3 b0 b1 b2 b3 : Int) (A B : Nat) (Sa : ∀ W : World, Calls Tryz.prog 93 #[.agg #[.int .u64 a0, .int .u64 a1, .int .u64 a2, .int .u64 a3]] W fun e w' => ∃ v, e = .returned v ∧ RowIs w' v 33 A ∧ Below W.heap.size W w') (Sb : ∀ W : World, Calls Tryz.prog 93 #[.agg #[.int .u64 b0, .int .u64 b1, .int .u64 b2, .int .u64 b3]] W fun e w' => ∃ v, e = .returned v ∧ RowIs w' v 33 B ∧ Below W.heap.size W w') (HNO : decide (B = 0) = true) (w : World) :
    Calls Tryz.prog 23 #[.agg #[.int .u64 a0, .int .u64 a1, .int .u64 a2, .int .u64 a3], .agg #[.int .u64 b0, .int .u64 b1, .int .u64 b2, .int .u64 b3]] w fun e w' => e = .returned (.agg #[.int .u64 0, .int .u64 0, .int .u64 0, .int .u64 0]) ∧ Below w.heap.size w w' := by
  have Sa' : Hid _ := Sa
  have Sb' : Hid _ := Sb
  have HNO' : Hid (decide (B = 0) = true) := HNO
  clear Sa Sb HNO
  go_enter Tryz.func23, Tryz.ntmps23
  go_upto_region 1 with fail
  have X1 : Hid (Bw w [(w.heap.size + 1 + 1, 0, 0, 0, 0), (w.heap.size + 1, b0, b1, b2, b3), (w.heap.size, a0, a1, a2, a3)] [] (((w.alloc (.cells #[.int .u64 a0, .int .u64 a1, .int .u64 a2, .int .u64 a3] 24)).alloc (.cells #[.int .u64 b0, .int .u64 b1, .int .u64 b2, .int .u64 b3] 24)).alloc (.cells #[.int .u64 0, .int .u64 0, .int .u64 0, .int .u64 0] 24))) := by
    have h := (((Bx.start w).alloc a0 a1 a2 a3).alloc b0 b1 b2 b3).alloc 0 0 0 0
    (try simp only [World.size_alloc] at h)
    exact Bw.of h
  generalize (((w.alloc (.cells #[.int .u64 a0, .int .u64 a1, .int .u64 a2, .int .u64 a3] 24)).alloc (.cells #[.int .u64 b0, .int .u64 b1, .int .u64 b2, .int .u64 b3] 24)).alloc (.cells #[.int .u64 0, .int .u64 0, .int .u64 0, .int .u64 0] 24)) = g2 at X1 ⊢
  obtain ⟨k3_1_0, k3_1_1, k3_1_2, k3_1_3, k3_1_4, k3_1_5, k3_1_6, k3_1_7⟩ := X1.out.bx.f0 mm1
  go_upto_region 2 with (first | (go_at_call 93; refine (Sb'.out _).mono ?_; rintro e g7 ⟨x4, rfl, hR5, hB⟩; (have X6 : Hid _ := ((X1.out.past hB).row hR5)); clear hB hR5 X1 k3_1_0 k3_1_1 k3_1_2 k3_1_3 k3_1_4 k3_1_5 k3_1_6 k3_1_7; obtain ⟨k8_1_0, k8_1_1, k8_1_2, k8_1_3, k8_1_4, k8_1_5, k8_1_6, k8_1_7⟩ := X6.out.bx.f0 mm1))
  clear k8_1_0 k8_1_1 k8_1_2 k8_1_3 k8_1_4 k8_1_5 k8_1_6 k8_1_7
  go_upto_region 3 with (first | (go_at_call 88; refine (ri_none (Bw.at (v := x4) (n := 33) (N := B) X6.out mm0) true HNO'.out).mono ?_; rintro e g11 ⟨rfl, hB⟩; (have X10 : Hid _ := (X6.out.past hB)); clear hB  X6 ))
  obtain ⟨k13_0_0, k13_0_1, k13_0_2, k13_0_3, k13_0_4, k13_0_5, k13_0_6, k13_0_7⟩ := X10.out.bx.f0 mm0
  go_wp2
  clear k13_0_0 k13_0_1 k13_0_2 k13_0_3 k13_0_4 k13_0_5 k13_0_6 k13_0_7
  have X14 : Hid (Bw w ((w.heap.size + 1 + 1, 0, 0, 0, 0) :: [(w.heap.size + 1, b0, b1, b2, b3), (w.heap.size, a0, a1, a2, a3)]) [] ((((g11.setCell ⟨w.heap.size + 1 + 1, 0, none⟩ (.int .u64 0)).setCell ⟨w.heap.size + 1 + 1, 1, none⟩ (.int .u64 0)).setCell ⟨w.heap.size + 1 + 1, 2, none⟩ (.int .u64 0)).setCell ⟨w.heap.size + 1 + 1, 3, none⟩ (.int .u64 0))) := Bw.of (Bx.put (Bx.sub X10.out.bx (l := [(w.heap.size + 1 + 1, 0, 0, 0, 0), (w.heap.size + 1, b0, b1, b2, b3), (w.heap.size, a0, a1, a2, a3)]) (m := [(w.heap.size + 1 + 1, 0, 0, 0, 0), (w.heap.size + 1, b0, b1, b2, b3), (w.heap.size, a0, a1, a2, a3)]) (by intro p hp; simp only [List.mem_cons, List.not_mem_nil, or_false] at hp ⊢; rcases hp with rfl | rfl | rfl <;> simp)) (by intro p hp; simp only [List.mem_cons, List.not_mem_nil, or_false] at hp; rcases hp with rfl | rfl <;> simp <;> omega) 0 0 0 0)
  generalize ((((g11.setCell ⟨w.heap.size + 1 + 1, 0, none⟩ (.int .u64 0)).setCell ⟨w.heap.size + 1 + 1, 1, none⟩ (.int .u64 0)).setCell ⟨w.heap.size + 1 + 1, 2, none⟩ (.int .u64 0)).setCell ⟨w.heap.size + 1 + 1, 3, none⟩ (.int .u64 0)) = g15 at X14 ⊢
  clear X10
  refine bodyPost_ret (v := .agg #[.int .u64 0, .int .u64 0, .int .u64 0, .int .u64 0]) ?_ rfl ⟨rfl, X14.out.bx.bel⟩
  exact results_c Tryz.results23 _ _ _ ⟨w.heap.size + 1 + 1, 0, none⟩ rfl (loadVar4 (X14.out.bx.box _ mm0))
set_option maxHeartbeats 4000000 in
set_option maxRecDepth 100000 in
theorem rsmod_z (a0 a1 a2 a3 b0 b1 b2 b3 : Int) (A B : Nat) (Sa : ∀ W : World, Calls Tryz.prog 93 #[.agg #[.int .u64 a0, .int .u64 a1, .int .u64 a2, .int .u64 a3]] W fun e w' => ∃ v, e = .returned v ∧ RowIs w' v 33 A ∧ Below W.heap.size W w') (Sb : ∀ W : World, Calls Tryz.prog 93 #[.agg #[.int .u64 b0, .int .u64 b1, .int .u64 b2, .int .u64 b3]] W fun e w' => ∃ v, e = .returned v ∧ RowIs w' v 33 B ∧ Below W.heap.size W w') (HNO : decide (B = 0) = true) (w : World) :
    Calls Tryz.prog 25 #[.agg #[.int .u64 a0, .int .u64 a1, .int .u64 a2, .int .u64 a3], .agg #[.int .u64 b0, .int .u64 b1, .int .u64 b2, .int .u64 b3]] w fun e w' => e = .returned (.agg #[.int .u64 0, .int .u64 0, .int .u64 0, .int .u64 0]) ∧ Below w.heap.size w w' := by
  have Sa' : Hid _ := Sa
  have Sb' : Hid _ := Sb
  have HNO' : Hid (decide (B = 0) = true) := HNO
  clear Sa Sb HNO
  go_enter Tryz.func25, Tryz.ntmps25
  go_upto_region 1 with fail
  have X1 : Hid (Bw w [(w.heap.size + 1 + 1, 0, 0, 0, 0), (w.heap.size + 1, b0, b1, b2, b3), (w.heap.size, a0, a1, a2, a3)] [] (((w.alloc (.cells #[.int .u64 a0, .int .u64 a1, .int .u64 a2, .int .u64 a3] 24)).alloc (.cells #[.int .u64 b0, .int .u64 b1, .int .u64 b2, .int .u64 b3] 24)).alloc (.cells #[.int .u64 0, .int .u64 0, .int .u64 0, .int .u64 0] 24))) := by
    have h := (((Bx.start w).alloc a0 a1 a2 a3).alloc b0 b1 b2 b3).alloc 0 0 0 0
    (try simp only [World.size_alloc] at h)
    exact Bw.of h
  generalize (((w.alloc (.cells #[.int .u64 a0, .int .u64 a1, .int .u64 a2, .int .u64 a3] 24)).alloc (.cells #[.int .u64 b0, .int .u64 b1, .int .u64 b2, .int .u64 b3] 24)).alloc (.cells #[.int .u64 0, .int .u64 0, .int .u64 0, .int .u64 0] 24)) = g2 at X1 ⊢
  obtain ⟨k3_1_0, k3_1_1, k3_1_2, k3_1_3, k3_1_4, k3_1_5, k3_1_6, k3_1_7⟩ := X1.out.bx.f0 mm1
  go_upto_region 2 with (first | (go_at_call 93; refine (Sb'.out _).mono ?_; rintro e g7 ⟨x4, rfl, hR5, hB⟩; (have X6 : Hid _ := ((X1.out.past hB).row hR5)); clear hB hR5 X1 k3_1_0 k3_1_1 k3_1_2 k3_1_3 k3_1_4 k3_1_5 k3_1_6 k3_1_7; obtain ⟨k8_1_0, k8_1_1, k8_1_2, k8_1_3, k8_1_4, k8_1_5, k8_1_6, k8_1_7⟩ := X6.out.bx.f0 mm1))
  clear k8_1_0 k8_1_1 k8_1_2 k8_1_3 k8_1_4 k8_1_5 k8_1_6 k8_1_7
  go_upto_region 3 with (first | (go_at_call 88; refine (ri_none (Bw.at (v := x4) (n := 33) (N := B) X6.out mm0) true HNO'.out).mono ?_; rintro e g11 ⟨rfl, hB⟩; (have X10 : Hid _ := (X6.out.past hB)); clear hB  X6 ))
  obtain ⟨k13_0_0, k13_0_1, k13_0_2, k13_0_3, k13_0_4, k13_0_5, k13_0_6, k13_0_7⟩ := X10.out.bx.f0 mm0
  go_wp2
  clear k13_0_0 k13_0_1 k13_0_2 k13_0_3 k13_0_4 k13_0_5 k13_0_6 k13_0_7
  have X14 : Hid (Bw w ((w.heap.size + 1 + 1, 0, 0, 0, 0) :: [(w.heap.size + 1, b0, b1, b2, b3), (w.heap.size, a0, a1, a2, a3)]) [] ((((g11.setCell ⟨w.heap.size + 1 + 1, 0, none⟩ (.int .u64 0)).setCell ⟨w.heap.size + 1 + 1, 1, none⟩ (.int .u64 0)).setCell ⟨w.heap.size + 1 + 1, 2, none⟩ (.int .u64 0)).setCell ⟨w.heap.size + 1 + 1, 3, none⟩ (.int .u64 0))) := Bw.of (Bx.put (Bx.sub X10.out.bx (l := [(w.heap.size + 1 + 1, 0, 0, 0, 0), (w.heap.size + 1, b0, b1, b2, b3), (w.heap.size, a0, a1, a2, a3)]) (m := [(w.heap.size + 1 + 1, 0, 0, 0, 0), (w.heap.size + 1, b0, b1, b2, b3), (w.heap.size, a0, a1, a2, a3)]) (by intro p hp; simp only [List.mem_cons, List.not_mem_nil, or_false] at hp ⊢; rcases hp with rfl | rfl | rfl <;> simp)) (by intro p hp; simp only [List.mem_cons, List.not_mem_nil, or_false] at hp; rcases hp with rfl | rfl <;> simp <;> omega) 0 0 0 0)
  generalize ((((g11.setCell ⟨w.heap.size + 1 + 1, 0, none⟩ (.int .u64 0)).setCell ⟨w.heap.size + 1 + 1, 1, none⟩ (.int .u64 0)).setCell ⟨w.heap.size + 1 + 1, 2, none⟩ (.int .u64 0)).setCell ⟨w.heap.size + 1 + 1, 3, none⟩ (.int .u64 0)) = g15 at X14 ⊢
  clear X10
  refine bodyPost_ret (v := .agg #[.int .u64 0, .int .u64 0, .int .u64 0, .int .u64 0]) ?_ rfl ⟨rfl, X14.out.bx.bel⟩
  exact results_c Tryz.results25 _ _ _ ⟨w.heap.size + 1 + 1, 0, none⟩ rfl (loadVar4 (X14.out.bx.box _ mm0))
set_option maxHeartbeats 4000000 in
set_option maxRecDepth 100000 in
theorem rsdiv_00 (a0 a1 a2 a3 b0 b1 b2 b3 p0 p1 p2 p3 : Int) (A B : Nat) (Sa : ∀ W : World, Calls Tryz.prog 93 #[.agg #[.int .u64 a0, .int .u64 a1, .int .u64 a2, .int .u64 a3]] W fun e w' => ∃ v, e = .returned v ∧ RowIs w' v 33 A ∧ Below W.heap.size W w') (Sb : ∀ W : World, Calls Tryz.prog 93 #[.agg #[.int .u64 b0, .int .u64 b1, .int .u64 b2, .int .u64 b3]] W fun e w' => ∃ v, e = .returned v ∧ RowIs w' v 33 B ∧ Below W.heap.size W w') (HNO : decide (B = 0) = false) (HPOS : 0 < B) (NA : ∀ W : World, Calls Tryz.prog 95 #[.agg #[.int .u64 a0, .int .u64 a1, .int .u64 a2, .int .u64 a3]] W fun e w' => e = .returned (.bool false) ∧ Below W.heap.size W w') (NB : ∀ W : World, Calls Tryz.prog 95 #[.agg #[.int .u64 b0, .int .u64 b1, .int .u64 b2, .int .u64 b3]] W fun e w' => e = .returned (.bool false) ∧ Below W.heap.size W w') (HPP : IsW (((A / B) : Nat) : Int) p0 p1 p2 p3) (w : World) :
    Calls Tryz.prog 23 #[.agg #[.int .u64 a0, .int .u64 a1, .int .u64 a2, .int .u64 a3], .agg #[.int .u64 b0, .int .u64 b1, .int .u64 b2, .int .u64 b3]] w fun e w' => e = .returned (.agg #[.int .u64 p0, .int .u64 p1, .int .u64 p2, .int .u64 p3]) ∧ Below w.heap.size w w' := by
  have Sa' : Hid _ := Sa
  have Sb' : Hid _ := Sb
  have HNO' : Hid (decide (B = 0) = false) := HNO
  have HPOS' : Hid (0 < B) := HPOS
  have NA' : Hid _ := NA
  have NB' : Hid _ := NB
  have HPP' : Hid (IsW (((A / B) : Nat) : Int) p0 p1 p2 p3) := HPP
  clear Sa Sb HNO HPOS NA NB HPP
  go_enter Tryz.func23, Tryz.ntmps23
  go_upto_region 1 with fail
  have X1 : Hid (Bw w [(w.heap.size + 1 + 1, 0, 0, 0, 0), (w.heap.size + 1, b0, b1, b2, b3), (w.heap.size, a0, a1, a2, a3)] [] (((w.alloc (.cells #[.int .u64 a0, .int .u64 a1, .int .u64 a2, .int .u64 a3] 24)).alloc (.cells #[.int .u64 b0, .int .u64 b1, .int .u64 b2, .int .u64 b3] 24)).alloc (.cells #[.int .u64 0, .int .u64 0, .int .u64 0, .int .u64 0] 24))) := by
    have h := (((Bx.start w).alloc a0 a1 a2 a3).alloc b0 b1 b2 b3).alloc 0 0 0 0
    (try simp only [World.size_alloc] at h)
    exact Bw.of h
  generalize (((w.alloc (.cells #[.int .u64 a0, .int .u64 a1, .int .u64 a2, .int .u64 a3] 24)).alloc (.cells #[.int .u64 b0, .int .u64 b1, .int .u64 b2, .int .u64 b3] 24)).alloc (.cells #[.int .u64 0, .int .u64 0, .int .u64 0, .int .u64 0] 24)) = g2 at X1 ⊢
  obtain ⟨k3_1_0, k3_1_1, k3_1_2, k3_1_3, k3_1_4, k3_1_5, k3_1_6, k3_1_7⟩ := X1.out.bx.f0 mm1
  go_upto_region 2 with (first | (go_at_call 93; refine (Sb'.out _).mono ?_; rintro e g7 ⟨x4, rfl, hR5, hB⟩; (have X6 : Hid _ := ((X1.out.past hB).row hR5)); clear hB hR5 X1 k3_1_0 k3_1_1 k3_1_2 k3_1_3 k3_1_4 k3_1_5 k3_1_6 k3_1_7; obtain ⟨k8_1_0, k8_1_1, k8_1_2, k8_1_3, k8_1_4, k8_1_5, k8_1_6, k8_1_7⟩ := X6.out.bx.f0 mm1))
  clear k8_1_0 k8_1_1 k8_1_2 k8_1_3 k8_1_4 k8_1_5 k8_1_6 k8_1_7
  go_upto_region 4 with (first | (go_at_call 88; refine (ri_none (Bw.at (v := x4) (n := 33) (N := B) X6.out mm0) false HNO'.out).mono ?_; rintro e g11 ⟨rfl, hB⟩; (have X10 : Hid _ := (X6.out.past hB)); clear hB  X6 ))
  obtain ⟨k13_2_0, k13_2_1, k13_2_2, k13_2_3, k13_2_4, k13_2_5, k13_2_6, k13_2_7⟩ := X10.out.bx.f0 mm2
  go_upto_region 5 with (first | (go_at_call 93; refine (Sa'.out _).mono ?_; rintro e g17 ⟨x14, rfl, hR15, hB⟩; (have X16 : Hid _ := ((X10.out.past hB).row hR15)); clear hB hR15 X10 k13_2_0 k13_2_1 k13_2_2 k13_2_3 k13_2_4 k13_2_5 k13_2_6 k13_2_7; obtain ⟨k18_2_0, k18_2_1, k18_2_2, k18_2_3, k18_2_4, k18_2_5, k18_2_6, k18_2_7⟩ := X16.out.bx.f0 mm2) | (go_at_call 89; refine (ri_div (Bw.at (v := x14) (n := 33) (N := A) X16.out mm0) (Bw.at (v := x4) (n := 33) (N := B) X16.out mm1) HPOS'.out 35 (by decide) (by decide) (by decide)).mono ?_; rintro e g24 ⟨x19, x20, rfl, hR21, hR22, hB⟩; (have X23 : Hid _ := (((X16.out.past hB).row hR21).row hR22)); clear hB hR21 hR22 X16 k18_2_0 k18_2_1 k18_2_2 k18_2_3 k18_2_4 k18_2_5 k18_2_6 k18_2_7; obtain ⟨k25_2_0, k25_2_1, k25_2_2, k25_2_3, k25_2_4, k25_2_5, k25_2_6, k25_2_7⟩ := X23.out.bx.f0 mm2))
  clear k25_2_0 k25_2_1 k25_2_2 k25_2_3 k25_2_4 k25_2_5 k25_2_6 k25_2_7
  refine wp_region_held_drew (S := fun w' => Bx w [(w.heap.size + 1, b0, b1, b2, b3), (w.heap.size, a0, a1, a2, a3)] w') (by kernel_rfl) (Bx.sub X23.out.bx.drew (l := [(w.heap.size + 1 + 1, 0, 0, 0, 0), (w.heap.size + 1, b0, b1, b2, b3), (w.heap.size, a0, a1, a2, a3)]) (m := [(w.heap.size + 1, b0, b1, b2, b3), (w.heap.size, a0, a1, a2, a3)]) (by intro p hp; simp only [List.mem_cons, List.not_mem_nil, or_false] at hp ⊢; rcases hp with rfl | rfl <;> simp)) (fun _ => ?_)
  have hHeld : Bw w [(w.heap.size + 1 + 1, 0, 0, 0, 0), (w.heap.size + 1, b0, b1, b2, b3), (w.heap.size, a0, a1, a2, a3)] [(x20, 35, (A % B)), (x19, 33, (A / B)), (x14, 33, A), (x4, 33, B)] g24.drew := ⟨(Bx.sub X23.out.bx.drew (l := [(w.heap.size + 1 + 1, 0, 0, 0, 0), (w.heap.size + 1, b0, b1, b2, b3), (w.heap.size, a0, a1, a2, a3)]) (m := [(w.heap.size + 1 + 1, 0, 0, 0, 0), (w.heap.size + 1, b0, b1, b2, b3), (w.heap.size, a0, a1, a2, a3)]) (by intro p hp; simp only [List.mem_cons, List.not_mem_nil, or_false] at hp ⊢; rcases hp with rfl | rfl | rfl <;> simp)), X23.out.drew.rows⟩
  generalize g24.drew = g26 at hHeld ⊢
  clear X23
  refine wpAnyH_take (i := 0) (v := x19) op0 (by kernel_rfl) (by kernel_rfl) (by kernel_rfl) (fun _ _ _ h => h) (Or.inl ⟨by rfl, fun W hS => ?_⟩) (Bx.sub hHeld.bx (fun p hp => List.Mem.tail _ hp)) ?_
  · go_simp
  simp only [Act.put, List.setIfInBounds_toArray, List.set_cons_zero, List.set_cons_succ]
  refine wpAnyH_take (i := 1) (v := .agg #[.int .u64 a0, .int .u64 a1, .int .u64 a2, .int .u64 a3]) op1 (by kernel_rfl) (by kernel_rfl) (by kernel_rfl) (fun _ _ _ h => h) (Or.inl ⟨by rfl, fun W hS => ?_⟩) (Bx.sub hHeld.bx (fun p hp => List.Mem.tail _ hp)) ?_
  · obtain ⟨c0, c1, c2, c3, _⟩ := hS.f0 mm1
    go_simp
  simp only [Act.put, List.setIfInBounds_toArray, List.set_cons_zero, List.set_cons_succ]
  refine wpAnyH_take (i := 3) (v := .agg #[.int .u64 b0, .int .u64 b1, .int .u64 b2, .int .u64 b3]) op3 (by kernel_rfl) (by kernel_rfl) (by kernel_rfl) (fun _ _ _ h => h) (Or.inl ⟨by rfl, fun W hS => ?_⟩) (Bx.sub hHeld.bx (fun p hp => List.Mem.tail _ hp)) ?_
  · obtain ⟨c0, c1, c2, c3, _⟩ := hS.f0 mm0
    go_simp
  simp only [Act.put, List.setIfInBounds_toArray, List.set_cons_zero, List.set_cons_succ]
  refine wpAnyH_ready (rs := [2]) (by kernel_rfl) (by simp) ?_
  refine AllReadyH.cons op2 (fun K hK => ?_) AllReadyH.nil
  rw [if_pos (by rfl)]
  go_simp
  refine (NA'.out _).mono ?_
  rintro e g27 ⟨rfl, hB⟩
  have x28 := (hHeld.past hB)
  clear hB  hHeld
  (try go_wp2_with fail)
  refine hK.out _ _ (Bx.sub x28.bx (fun p hp => List.Mem.tail _ hp)) (fun _ => ?_)
  clear hK K
  refine wpAnyH_ready (rs := [4]) (by kernel_rfl) (by simp) ?_
  refine AllReadyH.cons op4 (fun K hK => ?_) AllReadyH.nil
  rw [if_pos (by rfl)]
  go_simp
  refine (NB'.out _).mono ?_
  rintro e g29 ⟨rfl, hB⟩
  have x30 := (x28.past hB)
  clear hB  x28
  (try go_wp2_with fail)
  refine hK.out _ _ (Bx.sub x30.bx (fun p hp => List.Mem.tail _ hp)) (fun _ => ?_)
  clear hK K
  refine wpAnyH_take (i := 5) (v := .bool false) op5 (by kernel_rfl) (by kernel_rfl) (by kernel_rfl) (fun _ _ _ h => h) (Or.inl ⟨by rfl, fun W hS => ?_⟩) (Bx.sub x30.bx (fun p hp => List.Mem.tail _ hp)) ?_
  · go_simp
  simp only [Act.put, List.setIfInBounds_toArray, List.set_cons_zero, List.set_cons_succ]
  refine wpAnyH_ready (rs := [6]) (by kernel_rfl) (by simp) ?_
  refine AllReadyH.cons op6 (fun K hK => ?_) AllReadyH.nil
  rw [if_pos (by rfl)]
  go_simp
  refine (signed_f (Bw.at (v := x19) (n := 33) (N := (A / B)) x30 mm1) p0 p1 p2 p3 HPP'.out).mono ?_
  rintro e g31 ⟨rfl, hB⟩
  have x32 := (x30.past hB)
  clear hB  x30
  (try go_wp2_with fail)
  refine hK.out _ _ (Bx.sub x32.bx (fun p hp => List.Mem.tail _ hp)) (fun _ => ?_)
  clear hK K
  refine wpAnyH_ready (rs := [7]) (by kernel_rfl) (by simp) ?_
  refine AllReadyH.cons op7 (fun K hK => ?_) AllReadyH.nil
  rw [if_pos (by rfl)]
  obtain ⟨cc0, cc1, cc2, cc3, ff0, ff1, ff2, ff3⟩ := x32.bx.f0 mm0
  go_simp
  have x34 : Bw w ((w.heap.size + 1 + 1, p0, p1, p2, p3) :: [(w.heap.size + 1, b0, b1, b2, b3), (w.heap.size, a0, a1, a2, a3)]) [] ((((g31.setCell ⟨w.heap.size + 1 + 1, 0, none⟩ (.int .u64 p0)).setCell ⟨w.heap.size + 1 + 1, 1, none⟩ (.int .u64 p1)).setCell ⟨w.heap.size + 1 + 1, 2, none⟩ (.int .u64 p2)).setCell ⟨w.heap.size + 1 + 1, 3, none⟩ (.int .u64 p3)) := Bw.of (Bx.put x32.bx (by intro p hp; simp only [List.mem_cons, List.not_mem_nil, or_false] at hp; rcases hp with rfl | rfl <;> simp <;> omega) p0 p1 p2 p3)
  refine hK.out _ _ (Bx.sub x34.bx (fun p hp => List.Mem.tail _ hp)) (fun _ => ?_)
  clear hK K cc0 cc1 cc2 cc3 ff0 ff1 ff2 ff3 x32
  generalize ((((g31.setCell ⟨w.heap.size + 1 + 1, 0, none⟩ (.int .u64 p0)).setCell ⟨w.heap.size + 1 + 1, 1, none⟩ (.int .u64 p1)).setCell ⟨w.heap.size + 1 + 1, 2, none⟩ (.int .u64 p2)).setCell ⟨w.heap.size + 1 + 1, 3, none⟩ (.int .u64 p3)) = g33 at x34 ⊢
  (try simp only [Act.put])
  refine wpAnyH_done (by kernel_rfl) ?_ _
  have X35 : Hid (Bw w [(w.heap.size + 1 + 1, p0, p1, p2, p3), (w.heap.size + 1, b0, b1, b2, b3), (w.heap.size, a0, a1, a2, a3)] [] g33) := x34
  clear x34
  go_wp2
  refine bodyPost_ret (v := .agg #[.int .u64 p0, .int .u64 p1, .int .u64 p2, .int .u64 p3]) ?_ rfl ⟨rfl, X35.out.bx.bel⟩
  exact results_c Tryz.results23 _ _ _ ⟨w.heap.size + 1 + 1, 0, none⟩ rfl (loadVar4 (X35.out.bx.box _ mm0))
set_option maxHeartbeats 4000000 in
set_option maxRecDepth 100000 in
theorem rsdiv_01 (a0 a1 a2 a3 b0 b1 b2 b3 p0 p1 p2 p3 : Int) (A B : Nat) (Sa : ∀ W : World, Calls Tryz.prog 93 #[.agg #[.int .u64 a0, .int .u64 a1, .int .u64 a2, .int .u64 a3]] W fun e w' => ∃ v, e = .returned v ∧ RowIs w' v 33 A ∧ Below W.heap.size W w') (Sb : ∀ W : World, Calls Tryz.prog 93 #[.agg #[.int .u64 b0, .int .u64 b1, .int .u64 b2, .int .u64 b3]] W fun e w' => ∃ v, e = .returned v ∧ RowIs w' v 33 B ∧ Below W.heap.size W w') (HNO : decide (B = 0) = false) (HPOS : 0 < B) (NA : ∀ W : World, Calls Tryz.prog 95 #[.agg #[.int .u64 a0, .int .u64 a1, .int .u64 a2, .int .u64 a3]] W fun e w' => e = .returned (.bool false) ∧ Below W.heap.size W w') (NB : ∀ W : World, Calls Tryz.prog 95 #[.agg #[.int .u64 b0, .int .u64 b1, .int .u64 b2, .int .u64 b3]] W fun e w' => e = .returned (.bool true) ∧ Below W.heap.size W w') (HPP : IsW (((256 ^ 32 - (A / B) % 256 ^ 32) : Nat) : Int) p0 p1 p2 p3) (w : World) :
    Calls Tryz.prog 23 #[.agg #[.int .u64 a0, .int .u64 a1, .int .u64 a2, .int .u64 a3], .agg #[.int .u64 b0, .int .u64 b1, .int .u64 b2, .int .u64 b3]] w fun e w' => e = .returned (.agg #[.int .u64 p0, .int .u64 p1, .int .u64 p2, .int .u64 p3]) ∧ Below w.heap.size w w' := by
  have Sa' : Hid _ := Sa
  have Sb' : Hid _ := Sb
  have HNO' : Hid (decide (B = 0) = false) := HNO
  have HPOS' : Hid (0 < B) := HPOS
  have NA' : Hid _ := NA
  have NB' : Hid _ := NB
  have HPP' : Hid (IsW (((256 ^ 32 - (A / B) % 256 ^ 32) : Nat) : Int) p0 p1 p2 p3) := HPP
  clear Sa Sb HNO HPOS NA NB HPP
  go_enter Tryz.func23, Tryz.ntmps23
  go_upto_region 1 with fail
  have X1 : Hid (Bw w [(w.heap.size + 1 + 1, 0, 0, 0, 0), (w.heap.size + 1, b0, b1, b2, b3), (w.heap.size, a0, a1, a2, a3)] [] (((w.alloc (.cells #[.int .u64 a0, .int .u64 a1, .int .u64 a2, .int .u64 a3] 24)).alloc (.cells #[.int .u64 b0, .int .u64 b1, .int .u64 b2, .int .u64 b3] 24)).alloc (.cells #[.int .u64 0, .int .u64 0, .int .u64 0, .int .u64 0] 24))) := by
    have h := (((Bx.start w).alloc a0 a1 a2 a3).alloc b0 b1 b2 b3).alloc 0 0 0 0
    (try simp only [World.size_alloc] at h)
    exact Bw.of h
  generalize (((w.alloc (.cells #[.int .u64 a0, .int .u64 a1, .int .u64 a2, .int .u64 a3] 24)).alloc (.cells #[.int .u64 b0, .int .u64 b1, .int .u64 b2, .int .u64 b3] 24)).alloc (.cells #[.int .u64 0, .int .u64 0, .int .u64 0, .int .u64 0] 24)) = g2 at X1 ⊢
  obtain ⟨k3_1_0, k3_1_1, k3_1_2, k3_1_3, k3_1_4, k3_1_5, k3_1_6, k3_1_7⟩ := X1.out.bx.f0 mm1
  go_upto_region 2 with (first | (go_at_call 93; refine (Sb'.out _).mono ?_; rintro e g7 ⟨x4, rfl, hR5, hB⟩; (have X6 : Hid _ := ((X1.out.past hB).row hR5)); clear hB hR5 X1 k3_1_0 k3_1_1 k3_1_2 k3_1_3 k3_1_4 k3_1_5 k3_1_6 k3_1_7; obtain ⟨k8_1_0, k8_1_1, k8_1_2, k8_1_3, k8_1_4, k8_1_5, k8_1_6, k8_1_7⟩ := X6.out.bx.f0 mm1))
  clear k8_1_0 k8_1_1 k8_1_2 k8_1_3 k8_1_4 k8_1_5 k8_1_6 k8_1_7
  go_upto_region 4 with (first | (go_at_call 88; refine (ri_none (Bw.at (v := x4) (n := 33) (N := B) X6.out mm0) false HNO'.out).mono ?_; rintro e g11 ⟨rfl, hB⟩; (have X10 : Hid _ := (X6.out.past hB)); clear hB  X6 ))
  obtain ⟨k13_2_0, k13_2_1, k13_2_2, k13_2_3, k13_2_4, k13_2_5, k13_2_6, k13_2_7⟩ := X10.out.bx.f0 mm2
  go_upto_region 5 with (first | (go_at_call 93; refine (Sa'.out _).mono ?_; rintro e g17 ⟨x14, rfl, hR15, hB⟩; (have X16 : Hid _ := ((X10.out.past hB).row hR15)); clear hB hR15 X10 k13_2_0 k13_2_1 k13_2_2 k13_2_3 k13_2_4 k13_2_5 k13_2_6 k13_2_7; obtain ⟨k18_2_0, k18_2_1, k18_2_2, k18_2_3, k18_2_4, k18_2_5, k18_2_6, k18_2_7⟩ := X16.out.bx.f0 mm2) | (go_at_call 89; refine (ri_div (Bw.at (v := x14) (n := 33) (N := A) X16.out mm0) (Bw.at (v := x4) (n := 33) (N := B) X16.out mm1) HPOS'.out 35 (by decide) (by decide) (by decide)).mono ?_; rintro e g24 ⟨x19, x20, rfl, hR21, hR22, hB⟩; (have X23 : Hid _ := (((X16.out.past hB).row hR21).row hR22)); clear hB hR21 hR22 X16 k18_2_0 k18_2_1 k18_2_2 k18_2_3 k18_2_4 k18_2_5 k18_2_6 k18_2_7; obtain ⟨k25_2_0, k25_2_1, k25_2_2, k25_2_3, k25_2_4, k25_2_5, k25_2_6, k25_2_7⟩ := X23.out.bx.f0 mm2))
  clear k25_2_0 k25_2_1 k25_2_2 k25_2_3 k25_2_4 k25_2_5 k25_2_6 k25_2_7
  refine wp_region_held_drew (S := fun w' => Bx w [(w.heap.size + 1, b0, b1, b2, b3), (w.heap.size, a0, a1, a2, a3)] w') (by kernel_rfl) (Bx.sub X23.out.bx.drew (l := [(w.heap.size + 1 + 1, 0, 0, 0, 0), (w.heap.size + 1, b0, b1, b2, b3), (w.heap.size, a0, a1, a2, a3)]) (m := [(w.heap.size + 1, b0, b1, b2, b3), (w.heap.size, a0, a1, a2, a3)]) (by intro p hp; simp only [List.mem_cons, List.not_mem_nil, or_false] at hp ⊢; rcases hp with rfl | rfl <;> simp)) (fun _ => ?_)
  have hHeld : Bw w [(w.heap.size + 1 + 1, 0, 0, 0, 0), (w.heap.size + 1, b0, b1, b2, b3), (w.heap.size, a0, a1, a2, a3)] [(x20, 35, (A % B)), (x19, 33, (A / B)), (x14, 33, A), (x4, 33, B)] g24.drew := ⟨(Bx.sub X23.out.bx.drew (l := [(w.heap.size + 1 + 1, 0, 0, 0, 0), (w.heap.size + 1, b0, b1, b2, b3), (w.heap.size, a0, a1, a2, a3)]) (m := [(w.heap.size + 1 + 1, 0, 0, 0, 0), (w.heap.size + 1, b0, b1, b2, b3), (w.heap.size, a0, a1, a2, a3)]) (by intro p hp; simp only [List.mem_cons, List.not_mem_nil, or_false] at hp ⊢; rcases hp with rfl | rfl | rfl <;> simp)), X23.out.drew.rows⟩
  generalize g24.drew = g26 at hHeld ⊢
  clear X23
  refine wpAnyH_take (i := 0) (v := x19) op0 (by kernel_rfl) (by kernel_rfl) (by kernel_rfl) (fun _ _ _ h => h) (Or.inl ⟨by rfl, fun W hS => ?_⟩) (Bx.sub hHeld.bx (fun p hp => List.Mem.tail _ hp)) ?_
  · go_simp
  simp only [Act.put, List.setIfInBounds_toArray, List.set_cons_zero, List.set_cons_succ]
  refine wpAnyH_take (i := 1) (v := .agg #[.int .u64 a0, .int .u64 a1, .int .u64 a2, .int .u64 a3]) op1 (by kernel_rfl) (by kernel_rfl) (by kernel_rfl) (fun _ _ _ h => h) (Or.inl ⟨by rfl, fun W hS => ?_⟩) (Bx.sub hHeld.bx (fun p hp => List.Mem.tail _ hp)) ?_
  · obtain ⟨c0, c1, c2, c3, _⟩ := hS.f0 mm1
    go_simp
  simp only [Act.put, List.setIfInBounds_toArray, List.set_cons_zero, List.set_cons_succ]
  refine wpAnyH_take (i := 3) (v := .agg #[.int .u64 b0, .int .u64 b1, .int .u64 b2, .int .u64 b3]) op3 (by kernel_rfl) (by kernel_rfl) (by kernel_rfl) (fun _ _ _ h => h) (Or.inl ⟨by rfl, fun W hS => ?_⟩) (Bx.sub hHeld.bx (fun p hp => List.Mem.tail _ hp)) ?_
  · obtain ⟨c0, c1, c2, c3, _⟩ := hS.f0 mm0
    go_simp
  simp only [Act.put, List.setIfInBounds_toArray, List.set_cons_zero, List.set_cons_succ]
  refine wpAnyH_ready (rs := [2]) (by kernel_rfl) (by simp) ?_
  refine AllReadyH.cons op2 (fun K hK => ?_) AllReadyH.nil
  rw [if_pos (by rfl)]
  go_simp
  refine (NA'.out _).mono ?_
  rintro e g27 ⟨rfl, hB⟩
  have x28 := (hHeld.past hB)
  clear hB  hHeld
  (try go_wp2_with fail)
  refine hK.out _ _ (Bx.sub x28.bx (fun p hp => List.Mem.tail _ hp)) (fun _ => ?_)
  clear hK K
  refine wpAnyH_ready (rs := [4]) (by kernel_rfl) (by simp) ?_
  refine AllReadyH.cons op4 (fun K hK => ?_) AllReadyH.nil
  rw [if_pos (by rfl)]
  go_simp
  refine (NB'.out _).mono ?_
  rintro e g29 ⟨rfl, hB⟩
  have x30 := (x28.past hB)
  clear hB  x28
  (try go_wp2_with fail)
  refine hK.out _ _ (Bx.sub x30.bx (fun p hp => List.Mem.tail _ hp)) (fun _ => ?_)
  clear hK K
  refine wpAnyH_take (i := 5) (v := .bool true) op5 (by kernel_rfl) (by kernel_rfl) (by kernel_rfl) (fun _ _ _ h => h) (Or.inl ⟨by rfl, fun W hS => ?_⟩) (Bx.sub x30.bx (fun p hp => List.Mem.tail _ hp)) ?_
  · go_simp
  simp only [Act.put, List.setIfInBounds_toArray, List.set_cons_zero, List.set_cons_succ]
  refine wpAnyH_ready (rs := [6]) (by kernel_rfl) (by simp) ?_
  refine AllReadyH.cons op6 (fun K hK => ?_) AllReadyH.nil
  rw [if_pos (by rfl)]
  go_simp
  refine (signed_t (Bw.at (v := x19) (n := 33) (N := (A / B)) x30 mm1) p0 p1 p2 p3 HPP'.out).mono ?_
  rintro e g31 ⟨rfl, hB⟩
  have x32 := (x30.past hB)
  clear hB  x30
  (try go_wp2_with fail)
  refine hK.out _ _ (Bx.sub x32.bx (fun p hp => List.Mem.tail _ hp)) (fun _ => ?_)
  clear hK K
  refine wpAnyH_ready (rs := [7]) (by kernel_rfl) (by simp) ?_
  refine AllReadyH.cons op7 (fun K hK => ?_) AllReadyH.nil
  rw [if_pos (by rfl)]
  obtain ⟨cc0, cc1, cc2, cc3, ff0, ff1, ff2, ff3⟩ := x32.bx.f0 mm0
  go_simp
  have x34 : Bw w ((w.heap.size + 1 + 1, p0, p1, p2, p3) :: [(w.heap.size + 1, b0, b1, b2, b3), (w.heap.size, a0, a1, a2, a3)]) [] ((((g31.setCell ⟨w.heap.size + 1 + 1, 0, none⟩ (.int .u64 p0)).setCell ⟨w.heap.size + 1 + 1, 1, none⟩ (.int .u64 p1)).setCell ⟨w.heap.size + 1 + 1, 2, none⟩ (.int .u64 p2)).setCell ⟨w.heap.size + 1 + 1, 3, none⟩ (.int .u64 p3)) := Bw.of (Bx.put x32.bx (by intro p hp; simp only [List.mem_cons, List.not_mem_nil, or_false] at hp; rcases hp with rfl | rfl <;> simp <;> omega) p0 p1 p2 p3)
  refine hK.out _ _ (Bx.sub x34.bx (fun p hp => List.Mem.tail _ hp)) (fun _ => ?_)
  clear hK K cc0 cc1 cc2 cc3 ff0 ff1 ff2 ff3 x32
  generalize ((((g31.setCell ⟨w.heap.size + 1 + 1, 0, none⟩ (.int .u64 p0)).setCell ⟨w.heap.size + 1 + 1, 1, none⟩ (.int .u64 p1)).setCell ⟨w.heap.size + 1 + 1, 2, none⟩ (.int .u64 p2)).setCell ⟨w.heap.size + 1 + 1, 3, none⟩ (.int .u64 p3)) = g33 at x34 ⊢
  (try simp only [Act.put])
  refine wpAnyH_done (by kernel_rfl) ?_ _
  have X35 : Hid (Bw w [(w.heap.size + 1 + 1, p0, p1, p2, p3), (w.heap.size + 1, b0, b1, b2, b3), (w.heap.size, a0, a1, a2, a3)] [] g33) := x34
  clear x34
  go_wp2
  refine bodyPost_ret (v := .agg #[.int .u64 p0, .int .u64 p1, .int .u64 p2, .int .u64 p3]) ?_ rfl ⟨rfl, X35.out.bx.bel⟩
  exact results_c Tryz.results23 _ _ _ ⟨w.heap.size + 1 + 1, 0, none⟩ rfl (loadVar4 (X35.out.bx.box _ mm0))
set_option maxHeartbeats 4000000 in
set_option maxRecDepth 100000 in
theorem rsmod_0 (a0 a1 a2 a3 b0 b1 b2 b3 p0 p1 p2 p3 : Int) (A B : Nat) (Sa : ∀ W : World, Calls Tryz.prog 93 #[.agg #[.int .u64 a0, .int .u64 a1, .int .u64 a2, .int .u64 a3]] W fun e w' => ∃ v, e = .returned v ∧ RowIs w' v 33 A ∧ Below W.heap.size W w') (Sb : ∀ W : World, Calls Tryz.prog 93 #[.agg #[.int .u64 b0, .int .u64 b1, .int .u64 b2, .int .u64 b3]] W fun e w' => ∃ v, e = .returned v ∧ RowIs w' v 33 B ∧ Below W.heap.size W w') (HNO : decide (B = 0) = false) (HPOS : 0 < B) (NA : ∀ W : World, Calls Tryz.prog 95 #[.agg #[.int .u64 a0, .int .u64 a1, .int .u64 a2, .int .u64 a3]] W fun e w' => e = .returned (.bool false) ∧ Below W.heap.size W w') (HPP : IsW (((A % B) : Nat) : Int) p0 p1 p2 p3) (w : World) :
    Calls Tryz.prog 25 #[.agg #[.int .u64 a0, .int .u64 a1, .int .u64 a2, .int .u64 a3], .agg #[.int .u64 b0, .int .u64 b1, .int .u64 b2, .int .u64 b3]] w fun e w' => e = .returned (.agg #[.int .u64 p0, .int .u64 p1, .int .u64 p2, .int .u64 p3]) ∧ Below w.heap.size w w' := by
  have Sa' : Hid _ := Sa
  have Sb' : Hid _ := Sb
  have HNO' : Hid (decide (B = 0) = false) := HNO
  have HPOS' : Hid (0 < B) := HPOS
  have NA' : Hid _ := NA
  have HPP' : Hid (IsW (((A % B) : Nat) : Int) p0 p1 p2 p3) := HPP
  clear Sa Sb HNO HPOS NA HPP
  go_enter Tryz.func25, Tryz.ntmps25
  go_upto_region 1 with fail
  have X1 : Hid (Bw w [(w.heap.size + 1 + 1, 0, 0, 0, 0), (w.heap.size + 1, b0, b1, b2, b3), (w.heap.size, a0, a1, a2, a3)] [] (((w.alloc (.cells #[.int .u64 a0, .int .u64 a1, .int .u64 a2, .int .u64 a3] 24)).alloc (.cells #[.int .u64 b0, .int .u64 b1, .int .u64 b2, .int .u64 b3] 24)).alloc (.cells #[.int .u64 0, .int .u64 0, .int .u64 0, .int .u64 0] 24))) := by
    have h := (((Bx.start w).alloc a0 a1 a2 a3).alloc b0 b1 b2 b3).alloc 0 0 0 0
    (try simp only [World.size_alloc] at h)
    exact Bw.of h
  generalize (((w.alloc (.cells #[.int .u64 a0, .int .u64 a1, .int .u64 a2, .int .u64 a3] 24)).alloc (.cells #[.int .u64 b0, .int .u64 b1, .int .u64 b2, .int .u64 b3] 24)).alloc (.cells #[.int .u64 0, .int .u64 0, .int .u64 0, .int .u64 0] 24)) = g2 at X1 ⊢
  obtain ⟨k3_1_0, k3_1_1, k3_1_2, k3_1_3, k3_1_4, k3_1_5, k3_1_6, k3_1_7⟩ := X1.out.bx.f0 mm1
  go_upto_region 2 with (first | (go_at_call 93; refine (Sb'.out _).mono ?_; rintro e g7 ⟨x4, rfl, hR5, hB⟩; (have X6 : Hid _ := ((X1.out.past hB).row hR5)); clear hB hR5 X1 k3_1_0 k3_1_1 k3_1_2 k3_1_3 k3_1_4 k3_1_5 k3_1_6 k3_1_7; obtain ⟨k8_1_0, k8_1_1, k8_1_2, k8_1_3, k8_1_4, k8_1_5, k8_1_6, k8_1_7⟩ := X6.out.bx.f0 mm1))
  clear k8_1_0 k8_1_1 k8_1_2 k8_1_3 k8_1_4 k8_1_5 k8_1_6 k8_1_7
  go_upto_region 4 with (first | (go_at_call 88; refine (ri_none (Bw.at (v := x4) (n := 33) (N := B) X6.out mm0) false HNO'.out).mono ?_; rintro e g11 ⟨rfl, hB⟩; (have X10 : Hid _ := (X6.out.past hB)); clear hB  X6 ))
  obtain ⟨k13_2_0, k13_2_1, k13_2_2, k13_2_3, k13_2_4, k13_2_5, k13_2_6, k13_2_7⟩ := X10.out.bx.f0 mm2
  go_upto_region 5 with (first | (go_at_call 93; refine (Sa'.out _).mono ?_; rintro e g17 ⟨x14, rfl, hR15, hB⟩; (have X16 : Hid _ := ((X10.out.past hB).row hR15)); clear hB hR15 X10 k13_2_0 k13_2_1 k13_2_2 k13_2_3 k13_2_4 k13_2_5 k13_2_6 k13_2_7; obtain ⟨k18_2_0, k18_2_1, k18_2_2, k18_2_3, k18_2_4, k18_2_5, k18_2_6, k18_2_7⟩ := X16.out.bx.f0 mm2) | (go_at_call 89; refine (ri_div (Bw.at (v := x14) (n := 33) (N := A) X16.out mm0) (Bw.at (v := x4) (n := 33) (N := B) X16.out mm1) HPOS'.out 35 (by decide) (by decide) (by decide)).mono ?_; rintro e g24 ⟨x19, x20, rfl, hR21, hR22, hB⟩; (have X23 : Hid _ := (((X16.out.past hB).row hR21).row hR22)); clear hB hR21 hR22 X16 k18_2_0 k18_2_1 k18_2_2 k18_2_3 k18_2_4 k18_2_5 k18_2_6 k18_2_7; obtain ⟨k25_2_0, k25_2_1, k25_2_2, k25_2_3, k25_2_4, k25_2_5, k25_2_6, k25_2_7⟩ := X23.out.bx.f0 mm2))
  clear k25_2_0 k25_2_1 k25_2_2 k25_2_3 k25_2_4 k25_2_5 k25_2_6 k25_2_7
  obtain ⟨k26_0_0, k26_0_1, k26_0_2, k26_0_3, k26_0_4, k26_0_5, k26_0_6, k26_0_7⟩ := X23.out.bx.f0 mm0
  obtain ⟨k26_2_0, k26_2_1, k26_2_2, k26_2_3, k26_2_4, k26_2_5, k26_2_6, k26_2_7⟩ := X23.out.bx.f0 mm2
  go_wp2_with (first | (go_at_call 95; refine (NA'.out _).mono ?_; rintro e g28 ⟨rfl, hB⟩; (have X27 : Hid _ := (X23.out.past hB)); clear hB  X23 k26_0_0 k26_0_1 k26_0_2 k26_0_3 k26_0_4 k26_0_5 k26_0_6 k26_0_7 k26_2_0 k26_2_1 k26_2_2 k26_2_3 k26_2_4 k26_2_5 k26_2_6 k26_2_7; obtain ⟨k29_0_0, k29_0_1, k29_0_2, k29_0_3, k29_0_4, k29_0_5, k29_0_6, k29_0_7⟩ := X27.out.bx.f0 mm0; obtain ⟨k29_2_0, k29_2_1, k29_2_2, k29_2_3, k29_2_4, k29_2_5, k29_2_6, k29_2_7⟩ := X27.out.bx.f0 mm2) | (go_at_call 94; refine (signed_f (Bw.at (v := x20) (n := 35) (N := (A % B)) X27.out mm0) p0 p1 p2 p3 HPP'.out).mono ?_; rintro e g31 ⟨rfl, hB⟩; (have X30 : Hid _ := (X27.out.past hB)); clear hB  X27 k29_0_0 k29_0_1 k29_0_2 k29_0_3 k29_0_4 k29_0_5 k29_0_6 k29_0_7 k29_2_0 k29_2_1 k29_2_2 k29_2_3 k29_2_4 k29_2_5 k29_2_6 k29_2_7; obtain ⟨k32_0_0, k32_0_1, k32_0_2, k32_0_3, k32_0_4, k32_0_5, k32_0_6, k32_0_7⟩ := X30.out.bx.f0 mm0; obtain ⟨k32_2_0, k32_2_1, k32_2_2, k32_2_3, k32_2_4, k32_2_5, k32_2_6, k32_2_7⟩ := X30.out.bx.f0 mm2))
  clear k32_0_0 k32_0_1 k32_0_2 k32_0_3 k32_0_4 k32_0_5 k32_0_6 k32_0_7 k32_2_0 k32_2_1 k32_2_2 k32_2_3 k32_2_4 k32_2_5 k32_2_6 k32_2_7
  have X33 : Hid (Bw w ((w.heap.size + 1 + 1, p0, p1, p2, p3) :: [(w.heap.size + 1, b0, b1, b2, b3), (w.heap.size, a0, a1, a2, a3)]) [] ((((g31.setCell ⟨w.heap.size + 1 + 1, 0, none⟩ (.int .u64 p0)).setCell ⟨w.heap.size + 1 + 1, 1, none⟩ (.int .u64 p1)).setCell ⟨w.heap.size + 1 + 1, 2, none⟩ (.int .u64 p2)).setCell ⟨w.heap.size + 1 + 1, 3, none⟩ (.int .u64 p3))) := Bw.of (Bx.put (Bx.sub X30.out.bx (l := [(w.heap.size + 1 + 1, 0, 0, 0, 0), (w.heap.size + 1, b0, b1, b2, b3), (w.heap.size, a0, a1, a2, a3)]) (m := [(w.heap.size + 1 + 1, 0, 0, 0, 0), (w.heap.size + 1, b0, b1, b2, b3), (w.heap.size, a0, a1, a2, a3)]) (by intro p hp; simp only [List.mem_cons, List.not_mem_nil, or_false] at hp ⊢; rcases hp with rfl | rfl | rfl <;> simp)) (by intro p hp; simp only [List.mem_cons, List.not_mem_nil, or_false] at hp; rcases hp with rfl | rfl <;> simp <;> omega) p0 p1 p2 p3)
  generalize ((((g31.setCell ⟨w.heap.size + 1 + 1, 0, none⟩ (.int .u64 p0)).setCell ⟨w.heap.size + 1 + 1, 1, none⟩ (.int .u64 p1)).setCell ⟨w.heap.size + 1 + 1, 2, none⟩ (.int .u64 p2)).setCell ⟨w.heap.size + 1 + 1, 3, none⟩ (.int .u64 p3)) = g34 at X33 ⊢
  clear X30
  refine bodyPost_ret (v := .agg #[.int .u64 p0, .int .u64 p1, .int .u64 p2, .int .u64 p3]) ?_ rfl ⟨rfl, X33.out.bx.bel⟩
  exact results_c Tryz.results25 _ _ _ ⟨w.heap.size + 1 + 1, 0, none⟩ rfl (loadVar4 (X33.out.bx.box _ mm0))
set_option maxHeartbeats 4000000 in
set_option maxRecDepth 100000 in
theorem rsdiv_10 (a0 a1 a2 a3 b0 b1 b2 b3 p0 p1 p2 p3 : Int) (A B : Nat) (Sa : ∀ W : World, Calls Tryz.prog 93 #[.agg #[.int .u64 a0, .int .u64 a1, .int .u64 a2, .int .u64 a3]] W fun e w' => ∃ v, e = .returned v ∧ RowIs w' v 33 A ∧ Below W.heap.size W w') (Sb : ∀ W : World, Calls Tryz.prog 93 #[.agg #[.int .u64 b0, .int .u64 b1, .int .u64 b2, .int .u64 b3]] W fun e w' => ∃ v, e = .returned v ∧ RowIs w' v 33 B ∧ Below W.heap.size W w') (HNO : decide (B = 0) = false) (HPOS : 0 < B) (NA : ∀ W : World, Calls Tryz.prog 95 #[.agg #[.int .u64 a0, .int .u64 a1, .int .u64 a2, .int .u64 a3]] W fun e w' => e = .returned (.bool true) ∧ Below W.heap.size W w') (NB : ∀ W : World, Calls Tryz.prog 95 #[.agg #[.int .u64 b0, .int .u64 b1, .int .u64 b2, .int .u64 b3]] W fun e w' => e = .returned (.bool false) ∧ Below W.heap.size W w') (HPP : IsW (((256 ^ 32 - (A / B) % 256 ^ 32) : Nat) : Int) p0 p1 p2 p3) (w : World) :
    Calls Tryz.prog 23 #[.agg #[.int .u64 a0, .int .u64 a1, .int .u64 a2, .int .u64 a3], .agg #[.int .u64 b0, .int .u64 b1, .int .u64 b2, .int .u64 b3]] w fun e w' => e = .returned (.agg #[.int .u64 p0, .int .u64 p1, .int .u64 p2, .int .u64 p3]) ∧ Below w.heap.size w w' := by
  have Sa' : Hid _ := Sa
  have Sb' : Hid _ := Sb
  have HNO' : Hid (decide (B = 0) = false) := HNO
  have HPOS' : Hid (0 < B) := HPOS
  have NA' : Hid _ := NA
  have NB' : Hid _ := NB
  have HPP' : Hid (IsW (((256 ^ 32 - (A / B) % 256 ^ 32) : Nat) : Int) p0 p1 p2 p3) := HPP
  clear Sa Sb HNO HPOS NA NB HPP
  go_enter Tryz.func23, Tryz.ntmps23
  go_upto_region 1 with fail
  have X1 : Hid (Bw w [(w.heap.size + 1 + 1, 0, 0, 0, 0), (w.heap.size + 1, b0, b1, b2, b3), (w.heap.size, a0, a1, a2, a3)] [] (((w.alloc (.cells #[.int .u64 a0, .int .u64 a1, .int .u64 a2, .int .u64 a3] 24)).alloc (.cells #[.int .u64 b0, .int .u64 b1, .int .u64 b2, .int .u64 b3] 24)).alloc (.cells #[.int .u64 0, .int .u64 0, .int .u64 0, .int .u64 0] 24))) := by
    have h := (((Bx.start w).alloc a0 a1 a2 a3).alloc b0 b1 b2 b3).alloc 0 0 0 0
    (try simp only [World.size_alloc] at h)
    exact Bw.of h
  generalize (((w.alloc (.cells #[.int .u64 a0, .int .u64 a1, .int .u64 a2, .int .u64 a3] 24)).alloc (.cells #[.int .u64 b0, .int .u64 b1, .int .u64 b2, .int .u64 b3] 24)).alloc (.cells #[.int .u64 0, .int .u64 0, .int .u64 0, .int .u64 0] 24)) = g2 at X1 ⊢
  obtain ⟨k3_1_0, k3_1_1, k3_1_2, k3_1_3, k3_1_4, k3_1_5, k3_1_6, k3_1_7⟩ := X1.out.bx.f0 mm1
  go_upto_region 2 with (first | (go_at_call 93; refine (Sb'.out _).mono ?_; rintro e g7 ⟨x4, rfl, hR5, hB⟩; (have X6 : Hid _ := ((X1.out.past hB).row hR5)); clear hB hR5 X1 k3_1_0 k3_1_1 k3_1_2 k3_1_3 k3_1_4 k3_1_5 k3_1_6 k3_1_7; obtain ⟨k8_1_0, k8_1_1, k8_1_2, k8_1_3, k8_1_4, k8_1_5, k8_1_6, k8_1_7⟩ := X6.out.bx.f0 mm1))
  clear k8_1_0 k8_1_1 k8_1_2 k8_1_3 k8_1_4 k8_1_5 k8_1_6 k8_1_7
  go_upto_region 4 with (first | (go_at_call 88; refine (ri_none (Bw.at (v := x4) (n := 33) (N := B) X6.out mm0) false HNO'.out).mono ?_; rintro e g11 ⟨rfl, hB⟩; (have X10 : Hid _ := (X6.out.past hB)); clear hB  X6 ))
  obtain ⟨k13_2_0, k13_2_1, k13_2_2, k13_2_3, k13_2_4, k13_2_5, k13_2_6, k13_2_7⟩ := X10.out.bx.f0 mm2
  go_upto_region 5 with (first | (go_at_call 93; refine (Sa'.out _).mono ?_; rintro e g17 ⟨x14, rfl, hR15, hB⟩; (have X16 : Hid _ := ((X10.out.past hB).row hR15)); clear hB hR15 X10 k13_2_0 k13_2_1 k13_2_2 k13_2_3 k13_2_4 k13_2_5 k13_2_6 k13_2_7; obtain ⟨k18_2_0, k18_2_1, k18_2_2, k18_2_3, k18_2_4, k18_2_5, k18_2_6, k18_2_7⟩ := X16.out.bx.f0 mm2) | (go_at_call 89; refine (ri_div (Bw.at (v := x14) (n := 33) (N := A) X16.out mm0) (Bw.at (v := x4) (n := 33) (N := B) X16.out mm1) HPOS'.out 35 (by decide) (by decide) (by decide)).mono ?_; rintro e g24 ⟨x19, x20, rfl, hR21, hR22, hB⟩; (have X23 : Hid _ := (((X16.out.past hB).row hR21).row hR22)); clear hB hR21 hR22 X16 k18_2_0 k18_2_1 k18_2_2 k18_2_3 k18_2_4 k18_2_5 k18_2_6 k18_2_7; obtain ⟨k25_2_0, k25_2_1, k25_2_2, k25_2_3, k25_2_4, k25_2_5, k25_2_6, k25_2_7⟩ := X23.out.bx.f0 mm2))
  clear k25_2_0 k25_2_1 k25_2_2 k25_2_3 k25_2_4 k25_2_5 k25_2_6 k25_2_7
  refine wp_region_held_drew (S := fun w' => Bx w [(w.heap.size + 1, b0, b1, b2, b3), (w.heap.size, a0, a1, a2, a3)] w') (by kernel_rfl) (Bx.sub X23.out.bx.drew (l := [(w.heap.size + 1 + 1, 0, 0, 0, 0), (w.heap.size + 1, b0, b1, b2, b3), (w.heap.size, a0, a1, a2, a3)]) (m := [(w.heap.size + 1, b0, b1, b2, b3), (w.heap.size, a0, a1, a2, a3)]) (by intro p hp; simp only [List.mem_cons, List.not_mem_nil, or_false] at hp ⊢; rcases hp with rfl | rfl <;> simp)) (fun _ => ?_)
  have hHeld : Bw w [(w.heap.size + 1 + 1, 0, 0, 0, 0), (w.heap.size + 1, b0, b1, b2, b3), (w.heap.size, a0, a1, a2, a3)] [(x20, 35, (A % B)), (x19, 33, (A / B)), (x14, 33, A), (x4, 33, B)] g24.drew := ⟨(Bx.sub X23.out.bx.drew (l := [(w.heap.size + 1 + 1, 0, 0, 0, 0), (w.heap.size + 1, b0, b1, b2, b3), (w.heap.size, a0, a1, a2, a3)]) (m := [(w.heap.size + 1 + 1, 0, 0, 0, 0), (w.heap.size + 1, b0, b1, b2, b3), (w.heap.size, a0, a1, a2, a3)]) (by intro p hp; simp only [List.mem_cons, List.not_mem_nil, or_false] at hp ⊢; rcases hp with rfl | rfl | rfl <;> simp)), X23.out.drew.rows⟩
  generalize g24.drew = g26 at hHeld ⊢
  clear X23
  refine wpAnyH_take (i := 0) (v := x19) op0 (by kernel_rfl) (by kernel_rfl) (by kernel_rfl) (fun _ _ _ h => h) (Or.inl ⟨by rfl, fun W hS => ?_⟩) (Bx.sub hHeld.bx (fun p hp => List.Mem.tail _ hp)) ?_
  · go_simp
  simp only [Act.put, List.setIfInBounds_toArray, List.set_cons_zero, List.set_cons_succ]
  refine wpAnyH_take (i := 1) (v := .agg #[.int .u64 a0, .int .u64 a1, .int .u64 a2, .int .u64 a3]) op1 (by kernel_rfl) (by kernel_rfl) (by kernel_rfl) (fun _ _ _ h => h) (Or.inl ⟨by rfl, fun W hS => ?_⟩) (Bx.sub hHeld.bx (fun p hp => List.Mem.tail _ hp)) ?_
  · obtain ⟨c0, c1, c2, c3, _⟩ := hS.f0 mm1
    go_simp
  simp only [Act.put, List.setIfInBounds_toArray, List.set_cons_zero, List.set_cons_succ]
  refine wpAnyH_take (i := 3) (v := .agg #[.int .u64 b0, .int .u64 b1, .int .u64 b2, .int .u64 b3]) op3 (by kernel_rfl) (by kernel_rfl) (by kernel_rfl) (fun _ _ _ h => h) (Or.inl ⟨by rfl, fun W hS => ?_⟩) (Bx.sub hHeld.bx (fun p hp => List.Mem.tail _ hp)) ?_
  · obtain ⟨c0, c1, c2, c3, _⟩ := hS.f0 mm0
    go_simp
  simp only [Act.put, List.setIfInBounds_toArray, List.set_cons_zero, List.set_cons_succ]
  refine wpAnyH_ready (rs := [2]) (by kernel_rfl) (by simp) ?_
  refine AllReadyH.cons op2 (fun K hK => ?_) AllReadyH.nil
  rw [if_pos (by rfl)]
  go_simp
  refine (NA'.out _).mono ?_
  rintro e g27 ⟨rfl, hB⟩
  have x28 := (hHeld.past hB)
  clear hB  hHeld
  (try go_wp2_with fail)
  refine hK.out _ _ (Bx.sub x28.bx (fun p hp => List.Mem.tail _ hp)) (fun _ => ?_)
  clear hK K
  refine wpAnyH_ready (rs := [4]) (by kernel_rfl) (by simp) ?_
  refine AllReadyH.cons op4 (fun K hK => ?_) AllReadyH.nil
  rw [if_pos (by rfl)]
  go_simp
  refine (NB'.out _).mono ?_
  rintro e g29 ⟨rfl, hB⟩
  have x30 := (x28.past hB)
  clear hB  x28
  (try go_wp2_with fail)
  refine hK.out _ _ (Bx.sub x30.bx (fun p hp => List.Mem.tail _ hp)) (fun _ => ?_)
  clear hK K
  refine wpAnyH_take (i := 5) (v := .bool true) op5 (by kernel_rfl) (by kernel_rfl) (by kernel_rfl) (fun _ _ _ h => h) (Or.inl ⟨by rfl, fun W hS => ?_⟩) (Bx.sub x30.bx (fun p hp => List.Mem.tail _ hp)) ?_
  · go_simp
  simp only [Act.put, List.setIfInBounds_toArray, List.set_cons_zero, List.set_cons_succ]
  refine wpAnyH_ready (rs := [6]) (by kernel_rfl) (by simp) ?_
  refine AllReadyH.cons op6 (fun K hK => ?_) AllReadyH.nil
  rw [if_pos (by rfl)]
  go_simp
  refine (signed_t (Bw.at (v := x19) (n := 33) (N := (A / B)) x30 mm1) p0 p1 p2 p3 HPP'.out).mono ?_
  rintro e g31 ⟨rfl, hB⟩
  have x32 := (x30.past hB)
  clear hB  x30
  (try go_wp2_with fail)
  refine hK.out _ _ (Bx.sub x32.bx (fun p hp => List.Mem.tail _ hp)) (fun _ => ?_)
  clear hK K
  refine wpAnyH_ready (rs := [7]) (by kernel_rfl) (by simp) ?_
  refine AllReadyH.cons op7 (fun K hK => ?_) AllReadyH.nil
  rw [if_pos (by rfl)]
  obtain ⟨cc0, cc1, cc2, cc3, ff0, ff1, ff2, ff3⟩ := x32.bx.f0 mm0
  go_simp
  have x34 : Bw w ((w.heap.size + 1 + 1, p0, p1, p2, p3) :: [(w.heap.size + 1, b0, b1, b2, b3), (w.heap.size, a0, a1, a2, a3)]) [] ((((g31.setCell ⟨w.heap.size + 1 + 1, 0, none⟩ (.int .u64 p0)).setCell ⟨w.heap.size + 1 + 1, 1, none⟩ (.int .u64 p1)).setCell ⟨w.heap.size + 1 + 1, 2, none⟩ (.int .u64 p2)).setCell ⟨w.heap.size + 1 + 1, 3, none⟩ (.int .u64 p3)) := Bw.of (Bx.put x32.bx (by intro p hp; simp only [List.mem_cons, List.not_mem_nil, or_false] at hp; rcases hp with rfl | rfl <;> simp <;> omega) p0 p1 p2 p3)
  refine hK.out _ _ (Bx.sub x34.bx (fun p hp => List.Mem.tail _ hp)) (fun _ => ?_)
  clear hK K cc0 cc1 cc2 cc3 ff0 ff1 ff2 ff3 x32
  generalize ((((g31.setCell ⟨w.heap.size + 1 + 1, 0, none⟩ (.int .u64 p0)).setCell ⟨w.heap.size + 1 + 1, 1, none⟩ (.int .u64 p1)).setCell ⟨w.heap.size + 1 + 1, 2, none⟩ (.int .u64 p2)).setCell ⟨w.heap.size + 1 + 1, 3, none⟩ (.int .u64 p3)) = g33 at x34 ⊢
  (try simp only [Act.put])
  refine wpAnyH_done (by kernel_rfl) ?_ _
  have X35 : Hid (Bw w [(w.heap.size + 1 + 1, p0, p1, p2, p3), (w.heap.size + 1, b0, b1, b2, b3), (w.heap.size, a0, a1, a2, a3)] [] g33) := x34
  clear x34
  go_wp2
  refine bodyPost_ret (v := .agg #[.int .u64 p0, .int .u64 p1, .int .u64 p2, .int .u64 p3]) ?_ rfl ⟨rfl, X35.out.bx.bel⟩
  exact results_c Tryz.results23 _ _ _ ⟨w.heap.size + 1 + 1, 0, none⟩ rfl (loadVar4 (X35.out.bx.box _ mm0))
set_option maxHeartbeats 4000000 in
set_option maxRecDepth 100000 in
theorem rsdiv_11 (a0 a1 a2 a3 b0 b1 b2 b3 p0 p1 p2 p3 : Int) (A B : Nat) (Sa : ∀ W : World, Calls Tryz.prog 93 #[.agg #[.int .u64 a0, .int .u64 a1, .int .u64 a2, .int .u64 a3]] W fun e w' => ∃ v, e = .returned v ∧ RowIs w' v 33 A ∧ Below W.heap.size W w') (Sb : ∀ W : World, Calls Tryz.prog 93 #[.agg #[.int .u64 b0, .int .u64 b1, .int .u64 b2, .int .u64 b3]] W fun e w' => ∃ v, e = .returned v ∧ RowIs w' v 33 B ∧ Below W.heap.size W w') (HNO : decide (B = 0) = false) (HPOS : 0 < B) (NA : ∀ W : World, Calls Tryz.prog 95 #[.agg #[.int .u64 a0, .int .u64 a1, .int .u64 a2, .int .u64 a3]] W fun e w' => e = .returned (.bool true) ∧ Below W.heap.size W w') (NB : ∀ W : World, Calls Tryz.prog 95 #[.agg #[.int .u64 b0, .int .u64 b1, .int .u64 b2, .int .u64 b3]] W fun e w' => e = .returned (.bool true) ∧ Below W.heap.size W w') (HPP : IsW (((A / B) : Nat) : Int) p0 p1 p2 p3) (w : World) :
    Calls Tryz.prog 23 #[.agg #[.int .u64 a0, .int .u64 a1, .int .u64 a2, .int .u64 a3], .agg #[.int .u64 b0, .int .u64 b1, .int .u64 b2, .int .u64 b3]] w fun e w' => e = .returned (.agg #[.int .u64 p0, .int .u64 p1, .int .u64 p2, .int .u64 p3]) ∧ Below w.heap.size w w' := by
  have Sa' : Hid _ := Sa
  have Sb' : Hid _ := Sb
  have HNO' : Hid (decide (B = 0) = false) := HNO
  have HPOS' : Hid (0 < B) := HPOS
  have NA' : Hid _ := NA
  have NB' : Hid _ := NB
  have HPP' : Hid (IsW (((A / B) : Nat) : Int) p0 p1 p2 p3) := HPP
  clear Sa Sb HNO HPOS NA NB HPP
  go_enter Tryz.func23, Tryz.ntmps23
  go_upto_region 1 with fail
  have X1 : Hid (Bw w [(w.heap.size + 1 + 1, 0, 0, 0, 0), (w.heap.size + 1, b0, b1, b2, b3), (w.heap.size, a0, a1, a2, a3)] [] (((w.alloc (.cells #[.int .u64 a0, .int .u64 a1, .int .u64 a2, .int .u64 a3] 24)).alloc (.cells #[.int .u64 b0, .int .u64 b1, .int .u64 b2, .int .u64 b3] 24)).alloc (.cells #[.int .u64 0, .int .u64 0, .int .u64 0, .int .u64 0] 24))) := by
    have h := (((Bx.start w).alloc a0 a1 a2 a3).alloc b0 b1 b2 b3).alloc 0 0 0 0
    (try simp only [World.size_alloc] at h)
    exact Bw.of h
  generalize (((w.alloc (.cells #[.int .u64 a0, .int .u64 a1, .int .u64 a2, .int .u64 a3] 24)).alloc (.cells #[.int .u64 b0, .int .u64 b1, .int .u64 b2, .int .u64 b3] 24)).alloc (.cells #[.int .u64 0, .int .u64 0, .int .u64 0, .int .u64 0] 24)) = g2 at X1 ⊢
  obtain ⟨k3_1_0, k3_1_1, k3_1_2, k3_1_3, k3_1_4, k3_1_5, k3_1_6, k3_1_7⟩ := X1.out.bx.f0 mm1
  go_upto_region 2 with (first | (go_at_call 93; refine (Sb'.out _).mono ?_; rintro e g7 ⟨x4, rfl, hR5, hB⟩; (have X6 : Hid _ := ((X1.out.past hB).row hR5)); clear hB hR5 X1 k3_1_0 k3_1_1 k3_1_2 k3_1_3 k3_1_4 k3_1_5 k3_1_6 k3_1_7; obtain ⟨k8_1_0, k8_1_1, k8_1_2, k8_1_3, k8_1_4, k8_1_5, k8_1_6, k8_1_7⟩ := X6.out.bx.f0 mm1))
  clear k8_1_0 k8_1_1 k8_1_2 k8_1_3 k8_1_4 k8_1_5 k8_1_6 k8_1_7
  go_upto_region 4 with (first | (go_at_call 88; refine (ri_none (Bw.at (v := x4) (n := 33) (N := B) X6.out mm0) false HNO'.out).mono ?_; rintro e g11 ⟨rfl, hB⟩; (have X10 : Hid _ := (X6.out.past hB)); clear hB  X6 ))
  obtain ⟨k13_2_0, k13_2_1, k13_2_2, k13_2_3, k13_2_4, k13_2_5, k13_2_6, k13_2_7⟩ := X10.out.bx.f0 mm2
  go_upto_region 5 with (first | (go_at_call 93; refine (Sa'.out _).mono ?_; rintro e g17 ⟨x14, rfl, hR15, hB⟩; (have X16 : Hid _ := ((X10.out.past hB).row hR15)); clear hB hR15 X10 k13_2_0 k13_2_1 k13_2_2 k13_2_3 k13_2_4 k13_2_5 k13_2_6 k13_2_7; obtain ⟨k18_2_0, k18_2_1, k18_2_2, k18_2_3, k18_2_4, k18_2_5, k18_2_6, k18_2_7⟩ := X16.out.bx.f0 mm2) | (go_at_call 89; refine (ri_div (Bw.at (v := x14) (n := 33) (N := A) X16.out mm0) (Bw.at (v := x4) (n := 33) (N := B) X16.out mm1) HPOS'.out 35 (by decide) (by decide) (by decide)).mono ?_; rintro e g24 ⟨x19, x20, rfl, hR21, hR22, hB⟩; (have X23 : Hid _ := (((X16.out.past hB).row hR21).row hR22)); clear hB hR21 hR22 X16 k18_2_0 k18_2_1 k18_2_2 k18_2_3 k18_2_4 k18_2_5 k18_2_6 k18_2_7; obtain ⟨k25_2_0, k25_2_1, k25_2_2, k25_2_3, k25_2_4, k25_2_5, k25_2_6, k25_2_7⟩ := X23.out.bx.f0 mm2))
  clear k25_2_0 k25_2_1 k25_2_2 k25_2_3 k25_2_4 k25_2_5 k25_2_6 k25_2_7
  refine wp_region_held_drew (S := fun w' => Bx w [(w.heap.size + 1, b0, b1, b2, b3), (w.heap.size, a0, a1, a2, a3)] w') (by kernel_rfl) (Bx.sub X23.out.bx.drew (l := [(w.heap.size + 1 + 1, 0, 0, 0, 0), (w.heap.size + 1, b0, b1, b2, b3), (w.heap.size, a0, a1, a2, a3)]) (m := [(w.heap.size + 1, b0, b1, b2, b3), (w.heap.size, a0, a1, a2, a3)]) (by intro p hp; simp only [List.mem_cons, List.not_mem_nil, or_false] at hp ⊢; rcases hp with rfl | rfl <;> simp)) (fun _ => ?_)
  have hHeld : Bw w [(w.heap.size + 1 + 1, 0, 0, 0, 0), (w.heap.size + 1, b0, b1, b2, b3), (w.heap.size, a0, a1, a2, a3)] [(x20, 35, (A % B)), (x19, 33, (A / B)), (x14, 33, A), (x4, 33, B)] g24.drew := ⟨(Bx.sub X23.out.bx.drew (l := [(w.heap.size + 1 + 1, 0, 0, 0, 0), (w.heap.size + 1, b0, b1, b2, b3), (w.heap.size, a0, a1, a2, a3)]) (m := [(w.heap.size + 1 + 1, 0, 0, 0, 0), (w.heap.size + 1, b0, b1, b2, b3), (w.heap.size, a0, a1, a2, a3)]) (by intro p hp; simp only [List.mem_cons, List.not_mem_nil, or_false] at hp ⊢; rcases hp with rfl | rfl | rfl <;> simp)), X23.out.drew.rows⟩
  generalize g24.drew = g26 at hHeld ⊢
  clear X23
  refine wpAnyH_take (i := 0) (v := x19) op0 (by kernel_rfl) (by kernel_rfl) (by kernel_rfl) (fun _ _ _ h => h) (Or.inl ⟨by rfl, fun W hS => ?_⟩) (Bx.sub hHeld.bx (fun p hp => List.Mem.tail _ hp)) ?_
  · go_simp
  simp only [Act.put, List.setIfInBounds_toArray, List.set_cons_zero, List.set_cons_succ]
  refine wpAnyH_take (i := 1) (v := .agg #[.int .u64 a0, .int .u64 a1, .int .u64 a2, .int .u64 a3]) op1 (by kernel_rfl) (by kernel_rfl) (by kernel_rfl) (fun _ _ _ h => h) (Or.inl ⟨by rfl, fun W hS => ?_⟩) (Bx.sub hHeld.bx (fun p hp => List.Mem.tail _ hp)) ?_
  · obtain ⟨c0, c1, c2, c3, _⟩ := hS.f0 mm1
    go_simp
  simp only [Act.put, List.setIfInBounds_toArray, List.set_cons_zero, List.set_cons_succ]
  refine wpAnyH_take (i := 3) (v := .agg #[.int .u64 b0, .int .u64 b1, .int .u64 b2, .int .u64 b3]) op3 (by kernel_rfl) (by kernel_rfl) (by kernel_rfl) (fun _ _ _ h => h) (Or.inl ⟨by rfl, fun W hS => ?_⟩) (Bx.sub hHeld.bx (fun p hp => List.Mem.tail _ hp)) ?_
  · obtain ⟨c0, c1, c2, c3, _⟩ := hS.f0 mm0
    go_simp
  simp only [Act.put, List.setIfInBounds_toArray, List.set_cons_zero, List.set_cons_succ]
  refine wpAnyH_ready (rs := [2]) (by kernel_rfl) (by simp) ?_
  refine AllReadyH.cons op2 (fun K hK => ?_) AllReadyH.nil
  rw [if_pos (by rfl)]
  go_simp
  refine (NA'.out _).mono ?_
  rintro e g27 ⟨rfl, hB⟩
  have x28 := (hHeld.past hB)
  clear hB  hHeld
  (try go_wp2_with fail)
  refine hK.out _ _ (Bx.sub x28.bx (fun p hp => List.Mem.tail _ hp)) (fun _ => ?_)
  clear hK K
  refine wpAnyH_ready (rs := [4]) (by kernel_rfl) (by simp) ?_
  refine AllReadyH.cons op4 (fun K hK => ?_) AllReadyH.nil
  rw [if_pos (by rfl)]
  go_simp
  refine (NB'.out _).mono ?_
  rintro e g29 ⟨rfl, hB⟩
  have x30 := (x28.past hB)
  clear hB  x28
  (try go_wp2_with fail)
  refine hK.out _ _ (Bx.sub x30.bx (fun p hp => List.Mem.tail _ hp)) (fun _ => ?_)
  clear hK K
  refine wpAnyH_take (i := 5) (v := .bool false) op5 (by kernel_rfl) (by kernel_rfl) (by kernel_rfl) (fun _ _ _ h => h) (Or.inl ⟨by rfl, fun W hS => ?_⟩) (Bx.sub x30.bx (fun p hp => List.Mem.tail _ hp)) ?_
  · go_simp
  simp only [Act.put, List.setIfInBounds_toArray, List.set_cons_zero, List.set_cons_succ]
  refine wpAnyH_ready (rs := [6]) (by kernel_rfl) (by simp) ?_
  refine AllReadyH.cons op6 (fun K hK => ?_) AllReadyH.nil
  rw [if_pos (by rfl)]
  go_simp
  refine (signed_f (Bw.at (v := x19) (n := 33) (N := (A / B)) x30 mm1) p0 p1 p2 p3 HPP'.out).mono ?_
  rintro e g31 ⟨rfl, hB⟩
  have x32 := (x30.past hB)
  clear hB  x30
  (try go_wp2_with fail)
  refine hK.out _ _ (Bx.sub x32.bx (fun p hp => List.Mem.tail _ hp)) (fun _ => ?_)
  clear hK K
  refine wpAnyH_ready (rs := [7]) (by kernel_rfl) (by simp) ?_
  refine AllReadyH.cons op7 (fun K hK => ?_) AllReadyH.nil
  rw [if_pos (by rfl)]
  obtain ⟨cc0, cc1, cc2, cc3, ff0, ff1, ff2, ff3⟩ := x32.bx.f0 mm0
  go_simp
  have x34 : Bw w ((w.heap.size + 1 + 1, p0, p1, p2, p3) :: [(w.heap.size + 1, b0, b1, b2, b3), (w.heap.size, a0, a1, a2, a3)]) [] ((((g31.setCell ⟨w.heap.size + 1 + 1, 0, none⟩ (.int .u64 p0)).setCell ⟨w.heap.size + 1 + 1, 1, none⟩ (.int .u64 p1)).setCell ⟨w.heap.size + 1 + 1, 2, none⟩ (.int .u64 p2)).setCell ⟨w.heap.size + 1 + 1, 3, none⟩ (.int .u64 p3)) := Bw.of (Bx.put x32.bx (by intro p hp; simp only [List.mem_cons, List.not_mem_nil, or_false] at hp; rcases hp with rfl | rfl <;> simp <;> omega) p0 p1 p2 p3)
  refine hK.out _ _ (Bx.sub x34.bx (fun p hp => List.Mem.tail _ hp)) (fun _ => ?_)
  clear hK K cc0 cc1 cc2 cc3 ff0 ff1 ff2 ff3 x32
  generalize ((((g31.setCell ⟨w.heap.size + 1 + 1, 0, none⟩ (.int .u64 p0)).setCell ⟨w.heap.size + 1 + 1, 1, none⟩ (.int .u64 p1)).setCell ⟨w.heap.size + 1 + 1, 2, none⟩ (.int .u64 p2)).setCell ⟨w.heap.size + 1 + 1, 3, none⟩ (.int .u64 p3)) = g33 at x34 ⊢
  (try simp only [Act.put])
  refine wpAnyH_done (by kernel_rfl) ?_ _
  have X35 : Hid (Bw w [(w.heap.size + 1 + 1, p0, p1, p2, p3), (w.heap.size + 1, b0, b1, b2, b3), (w.heap.size, a0, a1, a2, a3)] [] g33) := x34
  clear x34
  go_wp2
  refine bodyPost_ret (v := .agg #[.int .u64 p0, .int .u64 p1, .int .u64 p2, .int .u64 p3]) ?_ rfl ⟨rfl, X35.out.bx.bel⟩
  exact results_c Tryz.results23 _ _ _ ⟨w.heap.size + 1 + 1, 0, none⟩ rfl (loadVar4 (X35.out.bx.box _ mm0))
set_option maxHeartbeats 4000000 in
set_option maxRecDepth 100000 in
theorem rsmod_1 (a0 a1 a2 a3 b0 b1 b2 b3 p0 p1 p2 p3 : Int) (A B : Nat) (Sa : ∀ W : World, Calls Tryz.prog 93 #[.agg #[.int .u64 a0, .int .u64 a1, .int .u64 a2, .int .u64 a3]] W fun e w' => ∃ v, e = .returned v ∧ RowIs w' v 33 A ∧ Below W.heap.size W w') (Sb : ∀ W : World, Calls Tryz.prog 93 #[.agg #[.int .u64 b0, .int .u64 b1, .int .u64 b2, .int .u64 b3]] W fun e w' => ∃ v, e = .returned v ∧ RowIs w' v 33 B ∧ Below W.heap.size W w') (HNO : decide (B = 0) = false) (HPOS : 0 < B) (NA : ∀ W : World, Calls Tryz.prog 95 #[.agg #[.int .u64 a0, .int .u64 a1, .int .u64 a2, .int .u64 a3]] W fun e w' => e = .returned (.bool true) ∧ Below W.heap.size W w') (HPP : IsW (((256 ^ 32 - (A % B) % 256 ^ 32) : Nat) : Int) p0 p1 p2 p3) (w : World) :
    Calls Tryz.prog 25 #[.agg #[.int .u64 a0, .int .u64 a1, .int .u64 a2, .int .u64 a3], .agg #[.int .u64 b0, .int .u64 b1, .int .u64 b2, .int .u64 b3]] w fun e w' => e = .returned (.agg #[.int .u64 p0, .int .u64 p1, .int .u64 p2, .int .u64 p3]) ∧ Below w.heap.size w w' := by
  have Sa' : Hid _ := Sa
  have Sb' : Hid _ := Sb
  have HNO' : Hid (decide (B = 0) = false) := HNO
  have HPOS' : Hid (0 < B) := HPOS
  have NA' : Hid _ := NA
  have HPP' : Hid (IsW (((256 ^ 32 - (A % B) % 256 ^ 32) : Nat) : Int) p0 p1 p2 p3) := HPP
  clear Sa Sb HNO HPOS NA HPP
  go_enter Tryz.func25, Tryz.ntmps25
  go_upto_region 1 with fail
  have X1 : Hid (Bw w [(w.heap.size + 1 + 1, 0, 0, 0, 0), (w.heap.size + 1, b0, b1, b2, b3), (w.heap.size, a0, a1, a2, a3)] [] (((w.alloc (.cells #[.int .u64 a0, .int .u64 a1, .int .u64 a2, .int .u64 a3] 24)).alloc (.cells #[.int .u64 b0, .int .u64 b1, .int .u64 b2, .int .u64 b3] 24)).alloc (.cells #[.int .u64 0, .int .u64 0, .int .u64 0, .int .u64 0] 24))) := by
    have h := (((Bx.start w).alloc a0 a1 a2 a3).alloc b0 b1 b2 b3).alloc 0 0 0 0
    (try simp only [World.size_alloc] at h)
    exact Bw.of h
  generalize (((w.alloc (.cells #[.int .u64 a0, .int .u64 a1, .int .u64 a2, .int .u64 a3] 24)).alloc (.cells #[.int .u64 b0, .int .u64 b1, .int .u64 b2, .int .u64 b3] 24)).alloc (.cells #[.int .u64 0, .int .u64 0, .int .u64 0, .int .u64 0] 24)) = g2 at X1 ⊢
  obtain ⟨k3_1_0, k3_1_1, k3_1_2, k3_1_3, k3_1_4, k3_1_5, k3_1_6, k3_1_7⟩ := X1.out.bx.f0 mm1
  go_upto_region 2 with (first | (go_at_call 93; refine (Sb'.out _).mono ?_; rintro e g7 ⟨x4, rfl, hR5, hB⟩; (have X6 : Hid _ := ((X1.out.past hB).row hR5)); clear hB hR5 X1 k3_1_0 k3_1_1 k3_1_2 k3_1_3 k3_1_4 k3_1_5 k3_1_6 k3_1_7; obtain ⟨k8_1_0, k8_1_1, k8_1_2, k8_1_3, k8_1_4, k8_1_5, k8_1_6, k8_1_7⟩ := X6.out.bx.f0 mm1))
  clear k8_1_0 k8_1_1 k8_1_2 k8_1_3 k8_1_4 k8_1_5 k8_1_6 k8_1_7
  go_upto_region 4 with (first | (go_at_call 88; refine (ri_none (Bw.at (v := x4) (n := 33) (N := B) X6.out mm0) false HNO'.out).mono ?_; rintro e g11 ⟨rfl, hB⟩; (have X10 : Hid _ := (X6.out.past hB)); clear hB  X6 ))
  obtain ⟨k13_2_0, k13_2_1, k13_2_2, k13_2_3, k13_2_4, k13_2_5, k13_2_6, k13_2_7⟩ := X10.out.bx.f0 mm2
  go_upto_region 5 with (first | (go_at_call 93; refine (Sa'.out _).mono ?_; rintro e g17 ⟨x14, rfl, hR15, hB⟩; (have X16 : Hid _ := ((X10.out.past hB).row hR15)); clear hB hR15 X10 k13_2_0 k13_2_1 k13_2_2 k13_2_3 k13_2_4 k13_2_5 k13_2_6 k13_2_7; obtain ⟨k18_2_0, k18_2_1, k18_2_2, k18_2_3, k18_2_4, k18_2_5, k18_2_6, k18_2_7⟩ := X16.out.bx.f0 mm2) | (go_at_call 89; refine (ri_div (Bw.at (v := x14) (n := 33) (N := A) X16.out mm0) (Bw.at (v := x4) (n := 33) (N := B) X16.out mm1) HPOS'.out 35 (by decide) (by decide) (by decide)).mono ?_; rintro e g24 ⟨x19, x20, rfl, hR21, hR22, hB⟩; (have X23 : Hid _ := (((X16.out.past hB).row hR21).row hR22)); clear hB hR21 hR22 X16 k18_2_0 k18_2_1 k18_2_2 k18_2_3 k18_2_4 k18_2_5 k18_2_6 k18_2_7; obtain ⟨k25_2_0, k25_2_1, k25_2_2, k25_2_3, k25_2_4, k25_2_5, k25_2_6, k25_2_7⟩ := X23.out.bx.f0 mm2))
  clear k25_2_0 k25_2_1 k25_2_2 k25_2_3 k25_2_4 k25_2_5 k25_2_6 k25_2_7
  obtain ⟨k26_0_0, k26_0_1, k26_0_2, k26_0_3, k26_0_4, k26_0_5, k26_0_6, k26_0_7⟩ := X23.out.bx.f0 mm0
  obtain ⟨k26_2_0, k26_2_1, k26_2_2, k26_2_3, k26_2_4, k26_2_5, k26_2_6, k26_2_7⟩ := X23.out.bx.f0 mm2
  go_wp2_with (first | (go_at_call 95; refine (NA'.out _).mono ?_; rintro e g28 ⟨rfl, hB⟩; (have X27 : Hid _ := (X23.out.past hB)); clear hB  X23 k26_0_0 k26_0_1 k26_0_2 k26_0_3 k26_0_4 k26_0_5 k26_0_6 k26_0_7 k26_2_0 k26_2_1 k26_2_2 k26_2_3 k26_2_4 k26_2_5 k26_2_6 k26_2_7; obtain ⟨k29_0_0, k29_0_1, k29_0_2, k29_0_3, k29_0_4, k29_0_5, k29_0_6, k29_0_7⟩ := X27.out.bx.f0 mm0; obtain ⟨k29_2_0, k29_2_1, k29_2_2, k29_2_3, k29_2_4, k29_2_5, k29_2_6, k29_2_7⟩ := X27.out.bx.f0 mm2) | (go_at_call 94; refine (signed_t (Bw.at (v := x20) (n := 35) (N := (A % B)) X27.out mm0) p0 p1 p2 p3 HPP'.out).mono ?_; rintro e g31 ⟨rfl, hB⟩; (have X30 : Hid _ := (X27.out.past hB)); clear hB  X27 k29_0_0 k29_0_1 k29_0_2 k29_0_3 k29_0_4 k29_0_5 k29_0_6 k29_0_7 k29_2_0 k29_2_1 k29_2_2 k29_2_3 k29_2_4 k29_2_5 k29_2_6 k29_2_7; obtain ⟨k32_0_0, k32_0_1, k32_0_2, k32_0_3, k32_0_4, k32_0_5, k32_0_6, k32_0_7⟩ := X30.out.bx.f0 mm0; obtain ⟨k32_2_0, k32_2_1, k32_2_2, k32_2_3, k32_2_4, k32_2_5, k32_2_6, k32_2_7⟩ := X30.out.bx.f0 mm2))
  clear k32_0_0 k32_0_1 k32_0_2 k32_0_3 k32_0_4 k32_0_5 k32_0_6 k32_0_7 k32_2_0 k32_2_1 k32_2_2 k32_2_3 k32_2_4 k32_2_5 k32_2_6 k32_2_7
  have X33 : Hid (Bw w ((w.heap.size + 1 + 1, p0, p1, p2, p3) :: [(w.heap.size + 1, b0, b1, b2, b3), (w.heap.size, a0, a1, a2, a3)]) [] ((((g31.setCell ⟨w.heap.size + 1 + 1, 0, none⟩ (.int .u64 p0)).setCell ⟨w.heap.size + 1 + 1, 1, none⟩ (.int .u64 p1)).setCell ⟨w.heap.size + 1 + 1, 2, none⟩ (.int .u64 p2)).setCell ⟨w.heap.size + 1 + 1, 3, none⟩ (.int .u64 p3))) := Bw.of (Bx.put (Bx.sub X30.out.bx (l := [(w.heap.size + 1 + 1, 0, 0, 0, 0), (w.heap.size + 1, b0, b1, b2, b3), (w.heap.size, a0, a1, a2, a3)]) (m := [(w.heap.size + 1 + 1, 0, 0, 0, 0), (w.heap.size + 1, b0, b1, b2, b3), (w.heap.size, a0, a1, a2, a3)]) (by intro p hp; simp only [List.mem_cons, List.not_mem_nil, or_false] at hp ⊢; rcases hp with rfl | rfl | rfl <;> simp)) (by intro p hp; simp only [List.mem_cons, List.not_mem_nil, or_false] at hp; rcases hp with rfl | rfl <;> simp <;> omega) p0 p1 p2 p3)
  generalize ((((g31.setCell ⟨w.heap.size + 1 + 1, 0, none⟩ (.int .u64 p0)).setCell ⟨w.heap.size + 1 + 1, 1, none⟩ (.int .u64 p1)).setCell ⟨w.heap.size + 1 + 1, 2, none⟩ (.int .u64 p2)).setCell ⟨w.heap.size + 1 + 1, 3, none⟩ (.int .u64 p3)) = g34 at X33 ⊢
  clear X30
  refine bodyPost_ret (v := .agg #[.int .u64 p0, .int .u64 p1, .int .u64 p2, .int .u64 p3]) ?_ rfl ⟨rfl, X33.out.bx.bel⟩
  exact results_c Tryz.results25 _ _ _ ⟨w.heap.size + 1 + 1, 0, none⟩ rfl (loadVar4 (X33.out.bx.box _ mm0))
set_option maxHeartbeats 4000000 in
set_option maxRecDepth 100000 in
theorem rslt_00t (a0 a1 a2 a3 b0 b1 b2 b3 : Int) (cv : Int) (NA : ∀ W : World, Calls Tryz.prog 95 #[.agg #[.int .u64 a0, .int .u64 a1, .int .u64 a2, .int .u64 a3]] W fun e w' => e = .returned (.bool false) ∧ Below W.heap.size W w') (NB : ∀ W : World, Calls Tryz.prog 95 #[.agg #[.int .u64 b0, .int .u64 b1, .int .u64 b2, .int .u64 b3]] W fun e w' => e = .returned (.bool false) ∧ Below W.heap.size W w') (CM : ∀ W : World, Calls Tryz.prog 98 #[.agg #[.int .u64 a0, .int .u64 a1, .int .u64 a2, .int .u64 a3], .agg #[.int .u64 b0, .int .u64 b1, .int .u64 b2, .int .u64 b3]] W fun e w' => e = .returned (.int .i64 cv) ∧ Below W.heap.size W w') (hcv : cv < 0) (w : World) :
    Calls Tryz.prog 27 #[.agg #[.int .u64 a0, .int .u64 a1, .int .u64 a2, .int .u64 a3], .agg #[.int .u64 b0, .int .u64 b1, .int .u64 b2, .int .u64 b3]] w fun e w' => e = .returned (.bool true) ∧ Below w.heap.size w w' := by
  have NA' : Hid _ := NA
  have NB' : Hid _ := NB
  have CM' : Hid _ := CM
  clear NA NB CM
  go_enter Tryz.func27, Tryz.ntmps27
  go_upto_region 1 with fail
  have X1 : Hid (Bw w [(w.heap.size + 1, b0, b1, b2, b3), (w.heap.size, a0, a1, a2, a3)] [] ((w.alloc (.cells #[.int .u64 a0, .int .u64 a1, .int .u64 a2, .int .u64 a3] 24)).alloc (.cells #[.int .u64 b0, .int .u64 b1, .int .u64 b2, .int .u64 b3] 24))) := by
    have h := ((Bx.start w).alloc a0 a1 a2 a3).alloc b0 b1 b2 b3
    (try simp only [World.size_alloc] at h)
    exact Bw.of h
  generalize ((w.alloc (.cells #[.int .u64 a0, .int .u64 a1, .int .u64 a2, .int .u64 a3] 24)).alloc (.cells #[.int .u64 b0, .int .u64 b1, .int .u64 b2, .int .u64 b3] 24)) = g2 at X1 ⊢
  refine wp_region_held_drew (S := fun w' => Bx w [(w.heap.size + 1, b0, b1, b2, b3), (w.heap.size, a0, a1, a2, a3)] w') (by kernel_rfl) X1.out.bx.drew (fun _ => ?_)
  have hHeld : Bw w [(w.heap.size + 1, b0, b1, b2, b3), (w.heap.size, a0, a1, a2, a3)] [] g2.drew := X1.out.drew
  generalize g2.drew = g3 at hHeld ⊢
  clear X1
  refine wpAnyH_take (i := 0) (v := .agg #[.int .u64 a0, .int .u64 a1, .int .u64 a2, .int .u64 a3]) op0 (by kernel_rfl) (by kernel_rfl) (by kernel_rfl) (fun _ _ _ h => h) (Or.inl ⟨by rfl, fun W hS => ?_⟩) hHeld.bx ?_
  · obtain ⟨c0, c1, c2, c3, _⟩ := hS.f0 mm1
    go_simp
  simp only [Act.put, List.setIfInBounds_toArray, List.set_cons_zero, List.set_cons_succ]
  refine wpAnyH_take (i := 2) (v := .agg #[.int .u64 b0, .int .u64 b1, .int .u64 b2, .int .u64 b3]) op2 (by kernel_rfl) (by kernel_rfl) (by kernel_rfl) (fun _ _ _ h => h) (Or.inl ⟨by rfl, fun W hS => ?_⟩) hHeld.bx ?_
  · obtain ⟨c0, c1, c2, c3, _⟩ := hS.f0 mm0
    go_simp
  simp only [Act.put, List.setIfInBounds_toArray, List.set_cons_zero, List.set_cons_succ]
  refine wpAnyH_ready (rs := [1]) (by kernel_rfl) (by simp) ?_
  refine AllReadyH.cons op1 (fun K hK => ?_) AllReadyH.nil
  rw [if_pos (by rfl)]
  go_simp
  refine (NA'.out _).mono ?_
  rintro e g4 ⟨rfl, hB⟩
  have x5 := (hHeld.past hB)
  clear hB  hHeld
  (try go_wp2_with fail)
  refine hK.out _ _ x5.bx (fun _ => ?_)
  clear hK K
  refine wpAnyH_ready (rs := [3]) (by kernel_rfl) (by simp) ?_
  refine AllReadyH.cons op3 (fun K hK => ?_) AllReadyH.nil
  rw [if_pos (by rfl)]
  go_simp
  refine (NB'.out _).mono ?_
  rintro e g6 ⟨rfl, hB⟩
  have x7 := (x5.past hB)
  clear hB  x5
  (try go_wp2_with fail)
  refine hK.out _ _ x7.bx (fun _ => ?_)
  clear hK K
  refine wpAnyH_take (i := 4) (v := .bool false) op4 (by kernel_rfl) (by kernel_rfl) (by kernel_rfl) (fun _ _ _ h => h) (Or.inl ⟨by rfl, fun W hS => ?_⟩) x7.bx ?_
  · go_simp
  simp only [Act.put, List.setIfInBounds_toArray, List.set_cons_zero, List.set_cons_succ]
  refine wpAnyH_done (by kernel_rfl) ?_ _
  have X8 : Hid (Bw w [(w.heap.size + 1, b0, b1, b2, b3), (w.heap.size, a0, a1, a2, a3)] [] g6) := x7
  clear x7
  go_upto_region 3 with fail
  obtain ⟨k9_0_0, k9_0_1, k9_0_2, k9_0_3, k9_0_4, k9_0_5, k9_0_6, k9_0_7⟩ := X8.out.bx.f0 mm0
  obtain ⟨k9_1_0, k9_1_1, k9_1_2, k9_1_3, k9_1_4, k9_1_5, k9_1_6, k9_1_7⟩ := X8.out.bx.f0 mm1
  go_wp2_with (first | (go_at_call 98; refine (CM'.out _).mono ?_; rintro e g11 ⟨rfl, hB⟩; (have X10 : Hid _ := (X8.out.past hB)); clear hB  X8 k9_0_0 k9_0_1 k9_0_2 k9_0_3 k9_0_4 k9_0_5 k9_0_6 k9_0_7 k9_1_0 k9_1_1 k9_1_2 k9_1_3 k9_1_4 k9_1_5 k9_1_6 k9_1_7; obtain ⟨k12_0_0, k12_0_1, k12_0_2, k12_0_3, k12_0_4, k12_0_5, k12_0_6, k12_0_7⟩ := X10.out.bx.f0 mm0; obtain ⟨k12_1_0, k12_1_1, k12_1_2, k12_1_3, k12_1_4, k12_1_5, k12_1_6, k12_1_7⟩ := X10.out.bx.f0 mm1))
  go_ret
  exact ⟨by first | rfl | (apply ret_bool; simp; omega), X10.out.bx.bel⟩
set_option maxHeartbeats 4000000 in
set_option maxRecDepth 100000 in
theorem rslt_00f (a0 a1 a2 a3 b0 b1 b2 b3 : Int) (cv : Int) (NA : ∀ W : World, Calls Tryz.prog 95 #[.agg #[.int .u64 a0, .int .u64 a1, .int .u64 a2, .int .u64 a3]] W fun e w' => e = .returned (.bool false) ∧ Below W.heap.size W w') (NB : ∀ W : World, Calls Tryz.prog 95 #[.agg #[.int .u64 b0, .int .u64 b1, .int .u64 b2, .int .u64 b3]] W fun e w' => e = .returned (.bool false) ∧ Below W.heap.size W w') (CM : ∀ W : World, Calls Tryz.prog 98 #[.agg #[.int .u64 a0, .int .u64 a1, .int .u64 a2, .int .u64 a3], .agg #[.int .u64 b0, .int .u64 b1, .int .u64 b2, .int .u64 b3]] W fun e w' => e = .returned (.int .i64 cv) ∧ Below W.heap.size W w') (hcv : ¬ cv < 0) (w : World) :
    Calls Tryz.prog 27 #[.agg #[.int .u64 a0, .int .u64 a1, .int .u64 a2, .int .u64 a3], .agg #[.int .u64 b0, .int .u64 b1, .int .u64 b2, .int .u64 b3]] w fun e w' => e = .returned (.bool false) ∧ Below w.heap.size w w' := by
  have NA' : Hid _ := NA
  have NB' : Hid _ := NB
  have CM' : Hid _ := CM
  clear NA NB CM
  go_enter Tryz.func27, Tryz.ntmps27
  go_upto_region 1 with fail
  have X1 : Hid (Bw w [(w.heap.size + 1, b0, b1, b2, b3), (w.heap.size, a0, a1, a2, a3)] [] ((w.alloc (.cells #[.int .u64 a0, .int .u64 a1, .int .u64 a2, .int .u64 a3] 24)).alloc (.cells #[.int .u64 b0, .int .u64 b1, .int .u64 b2, .int .u64 b3] 24))) := by
    have h := ((Bx.start w).alloc a0 a1 a2 a3).alloc b0 b1 b2 b3
    (try simp only [World.size_alloc] at h)
    exact Bw.of h
  generalize ((w.alloc (.cells #[.int .u64 a0, .int .u64 a1, .int .u64 a2, .int .u64 a3] 24)).alloc (.cells #[.int .u64 b0, .int .u64 b1, .int .u64 b2, .int .u64 b3] 24)) = g2 at X1 ⊢
  refine wp_region_held_drew (S := fun w' => Bx w [(w.heap.size + 1, b0, b1, b2, b3), (w.heap.size, a0, a1, a2, a3)] w') (by kernel_rfl) X1.out.bx.drew (fun _ => ?_)
  have hHeld : Bw w [(w.heap.size + 1, b0, b1, b2, b3), (w.heap.size, a0, a1, a2, a3)] [] g2.drew := X1.out.drew
  generalize g2.drew = g3 at hHeld ⊢
  clear X1
  refine wpAnyH_take (i := 0) (v := .agg #[.int .u64 a0, .int .u64 a1, .int .u64 a2, .int .u64 a3]) op0 (by kernel_rfl) (by kernel_rfl) (by kernel_rfl) (fun _ _ _ h => h) (Or.inl ⟨by rfl, fun W hS => ?_⟩) hHeld.bx ?_
  · obtain ⟨c0, c1, c2, c3, _⟩ := hS.f0 mm1
    go_simp
  simp only [Act.put, List.setIfInBounds_toArray, List.set_cons_zero, List.set_cons_succ]
  refine wpAnyH_take (i := 2) (v := .agg #[.int .u64 b0, .int .u64 b1, .int .u64 b2, .int .u64 b3]) op2 (by kernel_rfl) (by kernel_rfl) (by kernel_rfl) (fun _ _ _ h => h) (Or.inl ⟨by rfl, fun W hS => ?_⟩) hHeld.bx ?_
  · obtain ⟨c0, c1, c2, c3, _⟩ := hS.f0 mm0
    go_simp
  simp only [Act.put, List.setIfInBounds_toArray, List.set_cons_zero, List.set_cons_succ]
  refine wpAnyH_ready (rs := [1]) (by kernel_rfl) (by simp) ?_
  refine AllReadyH.cons op1 (fun K hK => ?_) AllReadyH.nil
  rw [if_pos (by rfl)]
  go_simp
  refine (NA'.out _).mono ?_
  rintro e g4 ⟨rfl, hB⟩
  have x5 := (hHeld.past hB)
  clear hB  hHeld
  (try go_wp2_with fail)
  refine hK.out _ _ x5.bx (fun _ => ?_)
  clear hK K
  refine wpAnyH_ready (rs := [3]) (by kernel_rfl) (by simp) ?_
  refine AllReadyH.cons op3 (fun K hK => ?_) AllReadyH.nil
  rw [if_pos (by rfl)]
  go_simp
  refine (NB'.out _).mono ?_
  rintro e g6 ⟨rfl, hB⟩
  have x7 := (x5.past hB)
  clear hB  x5
  (try go_wp2_with fail)
  refine hK.out _ _ x7.bx (fun _ => ?_)
  clear hK K
  refine wpAnyH_take (i := 4) (v := .bool false) op4 (by kernel_rfl) (by kernel_rfl) (by kernel_rfl) (fun _ _ _ h => h) (Or.inl ⟨by rfl, fun W hS => ?_⟩) x7.bx ?_
  · go_simp
  simp only [Act.put, List.setIfInBounds_toArray, List.set_cons_zero, List.set_cons_succ]
  refine wpAnyH_done (by kernel_rfl) ?_ _
  have X8 : Hid (Bw w [(w.heap.size + 1, b0, b1, b2, b3), (w.heap.size, a0, a1, a2, a3)] [] g6) := x7
  clear x7
  go_upto_region 3 with fail
  obtain ⟨k9_0_0, k9_0_1, k9_0_2, k9_0_3, k9_0_4, k9_0_5, k9_0_6, k9_0_7⟩ := X8.out.bx.f0 mm0
  obtain ⟨k9_1_0, k9_1_1, k9_1_2, k9_1_3, k9_1_4, k9_1_5, k9_1_6, k9_1_7⟩ := X8.out.bx.f0 mm1
  go_wp2_with (first | (go_at_call 98; refine (CM'.out _).mono ?_; rintro e g11 ⟨rfl, hB⟩; (have X10 : Hid _ := (X8.out.past hB)); clear hB  X8 k9_0_0 k9_0_1 k9_0_2 k9_0_3 k9_0_4 k9_0_5 k9_0_6 k9_0_7 k9_1_0 k9_1_1 k9_1_2 k9_1_3 k9_1_4 k9_1_5 k9_1_6 k9_1_7; obtain ⟨k12_0_0, k12_0_1, k12_0_2, k12_0_3, k12_0_4, k12_0_5, k12_0_6, k12_0_7⟩ := X10.out.bx.f0 mm0; obtain ⟨k12_1_0, k12_1_1, k12_1_2, k12_1_3, k12_1_4, k12_1_5, k12_1_6, k12_1_7⟩ := X10.out.bx.f0 mm1))
  go_ret
  exact ⟨by first | rfl | (apply ret_bool; simp; omega), X10.out.bx.bel⟩
set_option maxHeartbeats 4000000 in
set_option maxRecDepth 100000 in
theorem rslt_01 (a0 a1 a2 a3 b0 b1 b2 b3 : Int) (NA : ∀ W : World, Calls Tryz.prog 95 #[.agg #[.int .u64 a0, .int .u64 a1, .int .u64 a2, .int .u64 a3]] W fun e w' => e = .returned (.bool false) ∧ Below W.heap.size W w') (NB : ∀ W : World, Calls Tryz.prog 95 #[.agg #[.int .u64 b0, .int .u64 b1, .int .u64 b2, .int .u64 b3]] W fun e w' => e = .returned (.bool true) ∧ Below W.heap.size W w') (w : World) :
    Calls Tryz.prog 27 #[.agg #[.int .u64 a0, .int .u64 a1, .int .u64 a2, .int .u64 a3], .agg #[.int .u64 b0, .int .u64 b1, .int .u64 b2, .int .u64 b3]] w fun e w' => e = .returned (.bool false) ∧ Below w.heap.size w w' := by
  have NA' : Hid _ := NA
  have NB' : Hid _ := NB
  clear NA NB
  go_enter Tryz.func27, Tryz.ntmps27
  go_upto_region 1 with fail
  have X1 : Hid (Bw w [(w.heap.size + 1, b0, b1, b2, b3), (w.heap.size, a0, a1, a2, a3)] [] ((w.alloc (.cells #[.int .u64 a0, .int .u64 a1, .int .u64 a2, .int .u64 a3] 24)).alloc (.cells #[.int .u64 b0, .int .u64 b1, .int .u64 b2, .int .u64 b3] 24))) := by
    have h := ((Bx.start w).alloc a0 a1 a2 a3).alloc b0 b1 b2 b3
    (try simp only [World.size_alloc] at h)
    exact Bw.of h
  generalize ((w.alloc (.cells #[.int .u64 a0, .int .u64 a1, .int .u64 a2, .int .u64 a3] 24)).alloc (.cells #[.int .u64 b0, .int .u64 b1, .int .u64 b2, .int .u64 b3] 24)) = g2 at X1 ⊢
  refine wp_region_held_drew (S := fun w' => Bx w [(w.heap.size + 1, b0, b1, b2, b3), (w.heap.size, a0, a1, a2, a3)] w') (by kernel_rfl) X1.out.bx.drew (fun _ => ?_)
  have hHeld : Bw w [(w.heap.size + 1, b0, b1, b2, b3), (w.heap.size, a0, a1, a2, a3)] [] g2.drew := X1.out.drew
  generalize g2.drew = g3 at hHeld ⊢
  clear X1
  refine wpAnyH_take (i := 0) (v := .agg #[.int .u64 a0, .int .u64 a1, .int .u64 a2, .int .u64 a3]) op0 (by kernel_rfl) (by kernel_rfl) (by kernel_rfl) (fun _ _ _ h => h) (Or.inl ⟨by rfl, fun W hS => ?_⟩) hHeld.bx ?_
  · obtain ⟨c0, c1, c2, c3, _⟩ := hS.f0 mm1
    go_simp
  simp only [Act.put, List.setIfInBounds_toArray, List.set_cons_zero, List.set_cons_succ]
  refine wpAnyH_take (i := 2) (v := .agg #[.int .u64 b0, .int .u64 b1, .int .u64 b2, .int .u64 b3]) op2 (by kernel_rfl) (by kernel_rfl) (by kernel_rfl) (fun _ _ _ h => h) (Or.inl ⟨by rfl, fun W hS => ?_⟩) hHeld.bx ?_
  · obtain ⟨c0, c1, c2, c3, _⟩ := hS.f0 mm0
    go_simp
  simp only [Act.put, List.setIfInBounds_toArray, List.set_cons_zero, List.set_cons_succ]
  refine wpAnyH_ready (rs := [1]) (by kernel_rfl) (by simp) ?_
  refine AllReadyH.cons op1 (fun K hK => ?_) AllReadyH.nil
  rw [if_pos (by rfl)]
  go_simp
  refine (NA'.out _).mono ?_
  rintro e g4 ⟨rfl, hB⟩
  have x5 := (hHeld.past hB)
  clear hB  hHeld
  (try go_wp2_with fail)
  refine hK.out _ _ x5.bx (fun _ => ?_)
  clear hK K
  refine wpAnyH_ready (rs := [3]) (by kernel_rfl) (by simp) ?_
  refine AllReadyH.cons op3 (fun K hK => ?_) AllReadyH.nil
  rw [if_pos (by rfl)]
  go_simp
  refine (NB'.out _).mono ?_
  rintro e g6 ⟨rfl, hB⟩
  have x7 := (x5.past hB)
  clear hB  x5
  (try go_wp2_with fail)
  refine hK.out _ _ x7.bx (fun _ => ?_)
  clear hK K
  refine wpAnyH_take (i := 4) (v := .bool true) op4 (by kernel_rfl) (by kernel_rfl) (by kernel_rfl) (fun _ _ _ h => h) (Or.inl ⟨by rfl, fun W hS => ?_⟩) x7.bx ?_
  · go_simp
  simp only [Act.put, List.setIfInBounds_toArray, List.set_cons_zero, List.set_cons_succ]
  refine wpAnyH_done (by kernel_rfl) ?_ _
  have X8 : Hid (Bw w [(w.heap.size + 1, b0, b1, b2, b3), (w.heap.size, a0, a1, a2, a3)] [] g6) := x7
  clear x7
  go_upto_region 2 with fail
  obtain ⟨k9_1_0, k9_1_1, k9_1_2, k9_1_3, k9_1_4, k9_1_5, k9_1_6, k9_1_7⟩ := X8.out.bx.f0 mm1
  go_wp2_with (first | (go_at_call 95; refine (NA'.out _).mono ?_; rintro e g11 ⟨rfl, hB⟩; (have X10 : Hid _ := (X8.out.past hB)); clear hB  X8 k9_1_0 k9_1_1 k9_1_2 k9_1_3 k9_1_4 k9_1_5 k9_1_6 k9_1_7; obtain ⟨k12_1_0, k12_1_1, k12_1_2, k12_1_3, k12_1_4, k12_1_5, k12_1_6, k12_1_7⟩ := X10.out.bx.f0 mm1))
  go_ret
  exact ⟨rfl, X10.out.bx.bel⟩
set_option maxHeartbeats 4000000 in
set_option maxRecDepth 100000 in
theorem rslt_10 (a0 a1 a2 a3 b0 b1 b2 b3 : Int) (NA : ∀ W : World, Calls Tryz.prog 95 #[.agg #[.int .u64 a0, .int .u64 a1, .int .u64 a2, .int .u64 a3]] W fun e w' => e = .returned (.bool true) ∧ Below W.heap.size W w') (NB : ∀ W : World, Calls Tryz.prog 95 #[.agg #[.int .u64 b0, .int .u64 b1, .int .u64 b2, .int .u64 b3]] W fun e w' => e = .returned (.bool false) ∧ Below W.heap.size W w') (w : World) :
    Calls Tryz.prog 27 #[.agg #[.int .u64 a0, .int .u64 a1, .int .u64 a2, .int .u64 a3], .agg #[.int .u64 b0, .int .u64 b1, .int .u64 b2, .int .u64 b3]] w fun e w' => e = .returned (.bool true) ∧ Below w.heap.size w w' := by
  have NA' : Hid _ := NA
  have NB' : Hid _ := NB
  clear NA NB
  go_enter Tryz.func27, Tryz.ntmps27
  go_upto_region 1 with fail
  have X1 : Hid (Bw w [(w.heap.size + 1, b0, b1, b2, b3), (w.heap.size, a0, a1, a2, a3)] [] ((w.alloc (.cells #[.int .u64 a0, .int .u64 a1, .int .u64 a2, .int .u64 a3] 24)).alloc (.cells #[.int .u64 b0, .int .u64 b1, .int .u64 b2, .int .u64 b3] 24))) := by
    have h := ((Bx.start w).alloc a0 a1 a2 a3).alloc b0 b1 b2 b3
    (try simp only [World.size_alloc] at h)
    exact Bw.of h
  generalize ((w.alloc (.cells #[.int .u64 a0, .int .u64 a1, .int .u64 a2, .int .u64 a3] 24)).alloc (.cells #[.int .u64 b0, .int .u64 b1, .int .u64 b2, .int .u64 b3] 24)) = g2 at X1 ⊢
  refine wp_region_held_drew (S := fun w' => Bx w [(w.heap.size + 1, b0, b1, b2, b3), (w.heap.size, a0, a1, a2, a3)] w') (by kernel_rfl) X1.out.bx.drew (fun _ => ?_)
  have hHeld : Bw w [(w.heap.size + 1, b0, b1, b2, b3), (w.heap.size, a0, a1, a2, a3)] [] g2.drew := X1.out.drew
  generalize g2.drew = g3 at hHeld ⊢
  clear X1
  refine wpAnyH_take (i := 0) (v := .agg #[.int .u64 a0, .int .u64 a1, .int .u64 a2, .int .u64 a3]) op0 (by kernel_rfl) (by kernel_rfl) (by kernel_rfl) (fun _ _ _ h => h) (Or.inl ⟨by rfl, fun W hS => ?_⟩) hHeld.bx ?_
  · obtain ⟨c0, c1, c2, c3, _⟩ := hS.f0 mm1
    go_simp
  simp only [Act.put, List.setIfInBounds_toArray, List.set_cons_zero, List.set_cons_succ]
  refine wpAnyH_take (i := 2) (v := .agg #[.int .u64 b0, .int .u64 b1, .int .u64 b2, .int .u64 b3]) op2 (by kernel_rfl) (by kernel_rfl) (by kernel_rfl) (fun _ _ _ h => h) (Or.inl ⟨by rfl, fun W hS => ?_⟩) hHeld.bx ?_
  · obtain ⟨c0, c1, c2, c3, _⟩ := hS.f0 mm0
    go_simp
  simp only [Act.put, List.setIfInBounds_toArray, List.set_cons_zero, List.set_cons_succ]
  refine wpAnyH_ready (rs := [1]) (by kernel_rfl) (by simp) ?_
  refine AllReadyH.cons op1 (fun K hK => ?_) AllReadyH.nil
  rw [if_pos (by rfl)]
  go_simp
  refine (NA'.out _).mono ?_
  rintro e g4 ⟨rfl, hB⟩
  have x5 := (hHeld.past hB)
  clear hB  hHeld
  (try go_wp2_with fail)
  refine hK.out _ _ x5.bx (fun _ => ?_)
  clear hK K
  refine wpAnyH_ready (rs := [3]) (by kernel_rfl) (by simp) ?_
  refine AllReadyH.cons op3 (fun K hK => ?_) AllReadyH.nil
  rw [if_pos (by rfl)]
  go_simp
  refine (NB'.out _).mono ?_
  rintro e g6 ⟨rfl, hB⟩
  have x7 := (x5.past hB)
  clear hB  x5
  (try go_wp2_with fail)
  refine hK.out _ _ x7.bx (fun _ => ?_)
  clear hK K
  refine wpAnyH_take (i := 4) (v := .bool true) op4 (by kernel_rfl) (by kernel_rfl) (by kernel_rfl) (fun _ _ _ h => h) (Or.inl ⟨by rfl, fun W hS => ?_⟩) x7.bx ?_
  · go_simp
  simp only [Act.put, List.setIfInBounds_toArray, List.set_cons_zero, List.set_cons_succ]
  refine wpAnyH_done (by kernel_rfl) ?_ _
  have X8 : Hid (Bw w [(w.heap.size + 1, b0, b1, b2, b3), (w.heap.size, a0, a1, a2, a3)] [] g6) := x7
  clear x7
  go_upto_region 2 with fail
  obtain ⟨k9_1_0, k9_1_1, k9_1_2, k9_1_3, k9_1_4, k9_1_5, k9_1_6, k9_1_7⟩ := X8.out.bx.f0 mm1
  go_wp2_with (first | (go_at_call 95; refine (NA'.out _).mono ?_; rintro e g11 ⟨rfl, hB⟩; (have X10 : Hid _ := (X8.out.past hB)); clear hB  X8 k9_1_0 k9_1_1 k9_1_2 k9_1_3 k9_1_4 k9_1_5 k9_1_6 k9_1_7; obtain ⟨k12_1_0, k12_1_1, k12_1_2, k12_1_3, k12_1_4, k12_1_5, k12_1_6, k12_1_7⟩ := X10.out.bx.f0 mm1))
  go_ret
  exact ⟨rfl, X10.out.bx.bel⟩
set_option maxHeartbeats 4000000 in
set_option maxRecDepth 100000 in
theorem rslt_11t (a0 a1 a2 a3 b0 b1 b2 b3 : Int) (cv : Int) (NA : ∀ W : World, Calls Tryz.prog 95 #[.agg #[.int .u64 a0, .int .u64 a1, .int .u64 a2, .int .u64 a3]] W fun e w' => e = .returned (.bool true) ∧ Below W.heap.size W w') (NB : ∀ W : World, Calls Tryz.prog 95 #[.agg #[.int .u64 b0, .int .u64 b1, .int .u64 b2, .int .u64 b3]] W fun e w' => e = .returned (.bool true) ∧ Below W.heap.size W w') (CM : ∀ W : World, Calls Tryz.prog 98 #[.agg #[.int .u64 a0, .int .u64 a1, .int .u64 a2, .int .u64 a3], .agg #[.int .u64 b0, .int .u64 b1, .int .u64 b2, .int .u64 b3]] W fun e w' => e = .returned (.int .i64 cv) ∧ Below W.heap.size W w') (hcv : cv < 0) (w : World) :
    Calls Tryz.prog 27 #[.agg #[.int .u64 a0, .int .u64 a1, .int .u64 a2, .int .u64 a3], .agg #[.int .u64 b0, .int .u64 b1, .int .u64 b2, .int .u64 b3]] w fun e w' => e = .returned (.bool true) ∧ Below w.heap.size w w' := by
  have NA' : Hid _ := NA
  have NB' : Hid _ := NB
  have CM' : Hid _ := CM
  clear NA NB CM
  go_enter Tryz.func27, Tryz.ntmps27
  go_upto_region 1 with fail
  have X1 : Hid (Bw w [(w.heap.size + 1, b0, b1, b2, b3), (w.heap.size, a0, a1, a2, a3)] [] ((w.alloc (.cells #[.int .u64 a0, .int .u64 a1, .int .u64 a2, .int .u64 a3] 24)).alloc (.cells #[.int .u64 b0, .int .u64 b1, .int .u64 b2, .int .u64 b3] 24))) := by
    have h := ((Bx.start w).alloc a0 a1 a2 a3).alloc b0 b1 b2 b3
    (try simp only [World.size_alloc] at h)
    exact Bw.of h
  generalize ((w.alloc (.cells #[.int .u64 a0, .int .u64 a1, .int .u64 a2, .int .u64 a3] 24)).alloc (.cells #[.int .u64 b0, .int .u64 b1, .int .u64 b2, .int .u64 b3] 24)) = g2 at X1 ⊢
  refine wp_region_held_drew (S := fun w' => Bx w [(w.heap.size + 1, b0, b1, b2, b3), (w.heap.size, a0, a1, a2, a3)] w') (by kernel_rfl) X1.out.bx.drew (fun _ => ?_)
  have hHeld : Bw w [(w.heap.size + 1, b0, b1, b2, b3), (w.heap.size, a0, a1, a2, a3)] [] g2.drew := X1.out.drew
  generalize g2.drew = g3 at hHeld ⊢
  clear X1
  refine wpAnyH_take (i := 0) (v := .agg #[.int .u64 a0, .int .u64 a1, .int .u64 a2, .int .u64 a3]) op0 (by kernel_rfl) (by kernel_rfl) (by kernel_rfl) (fun _ _ _ h => h) (Or.inl ⟨by rfl, fun W hS => ?_⟩) hHeld.bx ?_
  · obtain ⟨c0, c1, c2, c3, _⟩ := hS.f0 mm1
    go_simp
  simp only [Act.put, List.setIfInBounds_toArray, List.set_cons_zero, List.set_cons_succ]
  refine wpAnyH_take (i := 2) (v := .agg #[.int .u64 b0, .int .u64 b1, .int .u64 b2, .int .u64 b3]) op2 (by kernel_rfl) (by kernel_rfl) (by kernel_rfl) (fun _ _ _ h => h) (Or.inl ⟨by rfl, fun W hS => ?_⟩) hHeld.bx ?_
  · obtain ⟨c0, c1, c2, c3, _⟩ := hS.f0 mm0
    go_simp
  simp only [Act.put, List.setIfInBounds_toArray, List.set_cons_zero, List.set_cons_succ]
  refine wpAnyH_ready (rs := [1]) (by kernel_rfl) (by simp) ?_
  refine AllReadyH.cons op1 (fun K hK => ?_) AllReadyH.nil
  rw [if_pos (by rfl)]
  go_simp
  refine (NA'.out _).mono ?_
  rintro e g4 ⟨rfl, hB⟩
  have x5 := (hHeld.past hB)
  clear hB  hHeld
  (try go_wp2_with fail)
  refine hK.out _ _ x5.bx (fun _ => ?_)
  clear hK K
  refine wpAnyH_ready (rs := [3]) (by kernel_rfl) (by simp) ?_
  refine AllReadyH.cons op3 (fun K hK => ?_) AllReadyH.nil
  rw [if_pos (by rfl)]
  go_simp
  refine (NB'.out _).mono ?_
  rintro e g6 ⟨rfl, hB⟩
  have x7 := (x5.past hB)
  clear hB  x5
  (try go_wp2_with fail)
  refine hK.out _ _ x7.bx (fun _ => ?_)
  clear hK K
  refine wpAnyH_take (i := 4) (v := .bool false) op4 (by kernel_rfl) (by kernel_rfl) (by kernel_rfl) (fun _ _ _ h => h) (Or.inl ⟨by rfl, fun W hS => ?_⟩) x7.bx ?_
  · go_simp
  simp only [Act.put, List.setIfInBounds_toArray, List.set_cons_zero, List.set_cons_succ]
  refine wpAnyH_done (by kernel_rfl) ?_ _
  have X8 : Hid (Bw w [(w.heap.size + 1, b0, b1, b2, b3), (w.heap.size, a0, a1, a2, a3)] [] g6) := x7
  clear x7
  go_upto_region 3 with fail
  obtain ⟨k9_0_0, k9_0_1, k9_0_2, k9_0_3, k9_0_4, k9_0_5, k9_0_6, k9_0_7⟩ := X8.out.bx.f0 mm0
  obtain ⟨k9_1_0, k9_1_1, k9_1_2, k9_1_3, k9_1_4, k9_1_5, k9_1_6, k9_1_7⟩ := X8.out.bx.f0 mm1
  go_wp2_with (first | (go_at_call 98; refine (CM'.out _).mono ?_; rintro e g11 ⟨rfl, hB⟩; (have X10 : Hid _ := (X8.out.past hB)); clear hB  X8 k9_0_0 k9_0_1 k9_0_2 k9_0_3 k9_0_4 k9_0_5 k9_0_6 k9_0_7 k9_1_0 k9_1_1 k9_1_2 k9_1_3 k9_1_4 k9_1_5 k9_1_6 k9_1_7; obtain ⟨k12_0_0, k12_0_1, k12_0_2, k12_0_3, k12_0_4, k12_0_5, k12_0_6, k12_0_7⟩ := X10.out.bx.f0 mm0; obtain ⟨k12_1_0, k12_1_1, k12_1_2, k12_1_3, k12_1_4, k12_1_5, k12_1_6, k12_1_7⟩ := X10.out.bx.f0 mm1))
  go_ret
  exact ⟨by first | rfl | (apply ret_bool; simp; omega), X10.out.bx.bel⟩
set_option maxHeartbeats 4000000 in
set_option maxRecDepth 100000 in
theorem rslt_11f (a0 a1 a2 a3 b0 b1 b2 b3 : Int) (cv : Int) (NA : ∀ W : World, Calls Tryz.prog 95 #[.agg #[.int .u64 a0, .int .u64 a1, .int .u64 a2, .int .u64 a3]] W fun e w' => e = .returned (.bool true) ∧ Below W.heap.size W w') (NB : ∀ W : World, Calls Tryz.prog 95 #[.agg #[.int .u64 b0, .int .u64 b1, .int .u64 b2, .int .u64 b3]] W fun e w' => e = .returned (.bool true) ∧ Below W.heap.size W w') (CM : ∀ W : World, Calls Tryz.prog 98 #[.agg #[.int .u64 a0, .int .u64 a1, .int .u64 a2, .int .u64 a3], .agg #[.int .u64 b0, .int .u64 b1, .int .u64 b2, .int .u64 b3]] W fun e w' => e = .returned (.int .i64 cv) ∧ Below W.heap.size W w') (hcv : ¬ cv < 0) (w : World) :
    Calls Tryz.prog 27 #[.agg #[.int .u64 a0, .int .u64 a1, .int .u64 a2, .int .u64 a3], .agg #[.int .u64 b0, .int .u64 b1, .int .u64 b2, .int .u64 b3]] w fun e w' => e = .returned (.bool false) ∧ Below w.heap.size w w' := by
  have NA' : Hid _ := NA
  have NB' : Hid _ := NB
  have CM' : Hid _ := CM
  clear NA NB CM
  go_enter Tryz.func27, Tryz.ntmps27
  go_upto_region 1 with fail
  have X1 : Hid (Bw w [(w.heap.size + 1, b0, b1, b2, b3), (w.heap.size, a0, a1, a2, a3)] [] ((w.alloc (.cells #[.int .u64 a0, .int .u64 a1, .int .u64 a2, .int .u64 a3] 24)).alloc (.cells #[.int .u64 b0, .int .u64 b1, .int .u64 b2, .int .u64 b3] 24))) := by
    have h := ((Bx.start w).alloc a0 a1 a2 a3).alloc b0 b1 b2 b3
    (try simp only [World.size_alloc] at h)
    exact Bw.of h
  generalize ((w.alloc (.cells #[.int .u64 a0, .int .u64 a1, .int .u64 a2, .int .u64 a3] 24)).alloc (.cells #[.int .u64 b0, .int .u64 b1, .int .u64 b2, .int .u64 b3] 24)) = g2 at X1 ⊢
  refine wp_region_held_drew (S := fun w' => Bx w [(w.heap.size + 1, b0, b1, b2, b3), (w.heap.size, a0, a1, a2, a3)] w') (by kernel_rfl) X1.out.bx.drew (fun _ => ?_)
  have hHeld : Bw w [(w.heap.size + 1, b0, b1, b2, b3), (w.heap.size, a0, a1, a2, a3)] [] g2.drew := X1.out.drew
  generalize g2.drew = g3 at hHeld ⊢
  clear X1
  refine wpAnyH_take (i := 0) (v := .agg #[.int .u64 a0, .int .u64 a1, .int .u64 a2, .int .u64 a3]) op0 (by kernel_rfl) (by kernel_rfl) (by kernel_rfl) (fun _ _ _ h => h) (Or.inl ⟨by rfl, fun W hS => ?_⟩) hHeld.bx ?_
  · obtain ⟨c0, c1, c2, c3, _⟩ := hS.f0 mm1
    go_simp
  simp only [Act.put, List.setIfInBounds_toArray, List.set_cons_zero, List.set_cons_succ]
  refine wpAnyH_take (i := 2) (v := .agg #[.int .u64 b0, .int .u64 b1, .int .u64 b2, .int .u64 b3]) op2 (by kernel_rfl) (by kernel_rfl) (by kernel_rfl) (fun _ _ _ h => h) (Or.inl ⟨by rfl, fun W hS => ?_⟩) hHeld.bx ?_
  · obtain ⟨c0, c1, c2, c3, _⟩ := hS.f0 mm0
    go_simp
  simp only [Act.put, List.setIfInBounds_toArray, List.set_cons_zero, List.set_cons_succ]
  refine wpAnyH_ready (rs := [1]) (by kernel_rfl) (by simp) ?_
  refine AllReadyH.cons op1 (fun K hK => ?_) AllReadyH.nil
  rw [if_pos (by rfl)]
  go_simp
  refine (NA'.out _).mono ?_
  rintro e g4 ⟨rfl, hB⟩
  have x5 := (hHeld.past hB)
  clear hB  hHeld
  (try go_wp2_with fail)
  refine hK.out _ _ x5.bx (fun _ => ?_)
  clear hK K
  refine wpAnyH_ready (rs := [3]) (by kernel_rfl) (by simp) ?_
  refine AllReadyH.cons op3 (fun K hK => ?_) AllReadyH.nil
  rw [if_pos (by rfl)]
  go_simp
  refine (NB'.out _).mono ?_
  rintro e g6 ⟨rfl, hB⟩
  have x7 := (x5.past hB)
  clear hB  x5
  (try go_wp2_with fail)
  refine hK.out _ _ x7.bx (fun _ => ?_)
  clear hK K
  refine wpAnyH_take (i := 4) (v := .bool false) op4 (by kernel_rfl) (by kernel_rfl) (by kernel_rfl) (fun _ _ _ h => h) (Or.inl ⟨by rfl, fun W hS => ?_⟩) x7.bx ?_
  · go_simp
  simp only [Act.put, List.setIfInBounds_toArray, List.set_cons_zero, List.set_cons_succ]
  refine wpAnyH_done (by kernel_rfl) ?_ _
  have X8 : Hid (Bw w [(w.heap.size + 1, b0, b1, b2, b3), (w.heap.size, a0, a1, a2, a3)] [] g6) := x7
  clear x7
  go_upto_region 3 with fail
  obtain ⟨k9_0_0, k9_0_1, k9_0_2, k9_0_3, k9_0_4, k9_0_5, k9_0_6, k9_0_7⟩ := X8.out.bx.f0 mm0
  obtain ⟨k9_1_0, k9_1_1, k9_1_2, k9_1_3, k9_1_4, k9_1_5, k9_1_6, k9_1_7⟩ := X8.out.bx.f0 mm1
  go_wp2_with (first | (go_at_call 98; refine (CM'.out _).mono ?_; rintro e g11 ⟨rfl, hB⟩; (have X10 : Hid _ := (X8.out.past hB)); clear hB  X8 k9_0_0 k9_0_1 k9_0_2 k9_0_3 k9_0_4 k9_0_5 k9_0_6 k9_0_7 k9_1_0 k9_1_1 k9_1_2 k9_1_3 k9_1_4 k9_1_5 k9_1_6 k9_1_7; obtain ⟨k12_0_0, k12_0_1, k12_0_2, k12_0_3, k12_0_4, k12_0_5, k12_0_6, k12_0_7⟩ := X10.out.bx.f0 mm0; obtain ⟨k12_1_0, k12_1_1, k12_1_2, k12_1_3, k12_1_4, k12_1_5, k12_1_6, k12_1_7⟩ := X10.out.bx.f0 mm1))
  go_ret
  exact ⟨by first | rfl | (apply ret_bool; simp; omega), X10.out.bx.bel⟩
set_option maxHeartbeats 4000000 in
set_option maxRecDepth 100000 in
theorem rsgt_t (a0 a1 a2 a3 b0 b1 b2 b3 : Int) (SL : ∀ W : World, Calls Tryz.prog 27 #[.agg #[.int .u64 b0, .int .u64 b1, .int .u64 b2, .int .u64 b3], .agg #[.int .u64 a0, .int .u64 a1, .int .u64 a2, .int .u64 a3]] W fun e w' => e = .returned (.bool true) ∧ Below W.heap.size W w') (w : World) :
    Calls Tryz.prog 29 #[.agg #[.int .u64 a0, .int .u64 a1, .int .u64 a2, .int .u64 a3], .agg #[.int .u64 b0, .int .u64 b1, .int .u64 b2, .int .u64 b3]] w fun e w' => e = .returned (.bool true) ∧ Below w.heap.size w w' := by
  have SL' : Hid _ := SL
  clear SL
  go_enter Tryz.func29, Tryz.ntmps29
  go_upto_region 1 with fail
  have X1 : Hid (Bw w [(w.heap.size + 1, b0, b1, b2, b3), (w.heap.size, a0, a1, a2, a3)] [] ((w.alloc (.cells #[.int .u64 a0, .int .u64 a1, .int .u64 a2, .int .u64 a3] 24)).alloc (.cells #[.int .u64 b0, .int .u64 b1, .int .u64 b2, .int .u64 b3] 24))) := by
    have h := ((Bx.start w).alloc a0 a1 a2 a3).alloc b0 b1 b2 b3
    (try simp only [World.size_alloc] at h)
    exact Bw.of h
  generalize ((w.alloc (.cells #[.int .u64 a0, .int .u64 a1, .int .u64 a2, .int .u64 a3] 24)).alloc (.cells #[.int .u64 b0, .int .u64 b1, .int .u64 b2, .int .u64 b3] 24)) = g2 at X1 ⊢
  obtain ⟨k3_0_0, k3_0_1, k3_0_2, k3_0_3, k3_0_4, k3_0_5, k3_0_6, k3_0_7⟩ := X1.out.bx.f0 mm0
  obtain ⟨k3_1_0, k3_1_1, k3_1_2, k3_1_3, k3_1_4, k3_1_5, k3_1_6, k3_1_7⟩ := X1.out.bx.f0 mm1
  go_wp2_with (first | (go_at_call 27; refine (SL'.out _).mono ?_; rintro e g5 ⟨rfl, hB⟩; (have X4 : Hid _ := (X1.out.past hB)); clear hB  X1 k3_0_0 k3_0_1 k3_0_2 k3_0_3 k3_0_4 k3_0_5 k3_0_6 k3_0_7 k3_1_0 k3_1_1 k3_1_2 k3_1_3 k3_1_4 k3_1_5 k3_1_6 k3_1_7; obtain ⟨k6_0_0, k6_0_1, k6_0_2, k6_0_3, k6_0_4, k6_0_5, k6_0_6, k6_0_7⟩ := X4.out.bx.f0 mm0; obtain ⟨k6_1_0, k6_1_1, k6_1_2, k6_1_3, k6_1_4, k6_1_5, k6_1_6, k6_1_7⟩ := X4.out.bx.f0 mm1))
  go_ret
  exact ⟨rfl, X4.out.bx.bel⟩
set_option maxHeartbeats 4000000 in
set_option maxRecDepth 100000 in
theorem rsgt_f (a0 a1 a2 a3 b0 b1 b2 b3 : Int) (SL : ∀ W : World, Calls Tryz.prog 27 #[.agg #[.int .u64 b0, .int .u64 b1, .int .u64 b2, .int .u64 b3], .agg #[.int .u64 a0, .int .u64 a1, .int .u64 a2, .int .u64 a3]] W fun e w' => e = .returned (.bool false) ∧ Below W.heap.size W w') (w : World) :
    Calls Tryz.prog 29 #[.agg #[.int .u64 a0, .int .u64 a1, .int .u64 a2, .int .u64 a3], .agg #[.int .u64 b0, .int .u64 b1, .int .u64 b2, .int .u64 b3]] w fun e w' => e = .returned (.bool false) ∧ Below w.heap.size w w' := by
  have SL' : Hid _ := SL
  clear SL
  go_enter Tryz.func29, Tryz.ntmps29
  go_upto_region 1 with fail
  have X1 : Hid (Bw w [(w.heap.size + 1, b0, b1, b2, b3), (w.heap.size, a0, a1, a2, a3)] [] ((w.alloc (.cells #[.int .u64 a0, .int .u64 a1, .int .u64 a2, .int .u64 a3] 24)).alloc (.cells #[.int .u64 b0, .int .u64 b1, .int .u64 b2, .int .u64 b3] 24))) := by
    have h := ((Bx.start w).alloc a0 a1 a2 a3).alloc b0 b1 b2 b3
    (try simp only [World.size_alloc] at h)
    exact Bw.of h
  generalize ((w.alloc (.cells #[.int .u64 a0, .int .u64 a1, .int .u64 a2, .int .u64 a3] 24)).alloc (.cells #[.int .u64 b0, .int .u64 b1, .int .u64 b2, .int .u64 b3] 24)) = g2 at X1 ⊢
  obtain ⟨k3_0_0, k3_0_1, k3_0_2, k3_0_3, k3_0_4, k3_0_5, k3_0_6, k3_0_7⟩ := X1.out.bx.f0 mm0
  obtain ⟨k3_1_0, k3_1_1, k3_1_2, k3_1_3, k3_1_4, k3_1_5, k3_1_6, k3_1_7⟩ := X1.out.bx.f0 mm1
  go_wp2_with (first | (go_at_call 27; refine (SL'.out _).mono ?_; rintro e g5 ⟨rfl, hB⟩; (have X4 : Hid _ := (X1.out.past hB)); clear hB  X1 k3_0_0 k3_0_1 k3_0_2 k3_0_3 k3_0_4 k3_0_5 k3_0_6 k3_0_7 k3_1_0 k3_1_1 k3_1_2 k3_1_3 k3_1_4 k3_1_5 k3_1_6 k3_1_7; obtain ⟨k6_0_0, k6_0_1, k6_0_2, k6_0_3, k6_0_4, k6_0_5, k6_0_6, k6_0_7⟩ := X4.out.bx.f0 mm0; obtain ⟨k6_1_0, k6_1_1, k6_1_2, k6_1_3, k6_1_4, k6_1_5, k6_1_6, k6_1_7⟩ := X4.out.bx.f0 mm1))
  go_ret
  exact ⟨rfl, X4.out.bx.bel⟩
end Go.Proofs.YtpadpmkfhljiiaaGreat
/- Word by word: the program's SDiv, SMod, SLt, SGt and the document's give the same. -/
namespace Go.Proofs.YtpadpmkfhljiiaaGreat
open Go.RowKit
/-- two functions give the same truth -/
def PairB (f g : Nat) (args : Array Value) : Prop := ∃ r : Bool, (∀ w : World, Calls Tryz.prog f args w fun e w' => e = .returned (.bool r) ∧ Below w.heap.size w w') ∧ (∀ w : World, Calls Tryz.prog g args w fun e w' => e = .returned (.bool r) ∧ Below w.heap.size w w')
theorem MM_half : MM / 2 = 57896044618658097711785492504343953926634992332820282019728792003956564819968 := by unfold MM; decide
theorem MM_val : MM = 115792089237316195423570985008687907853269984665640564039457584007913129639936 := rfl
theorem p255 : (2 : Nat) ^ 255 = 57896044618658097711785492504343953926634992332820282019728792003956564819968 := by decide
theorem top_bit {X : Nat} (h : X < 256 ^ 32) : bitf X 255 = if 57896044618658097711785492504343953926634992332820282019728792003956564819968 ≤ X then 1 else 0 := by
  rw [p256n] at h
  unfold bitf
  rw [p255]
  split <;> omega
/-- a word without its sign, by either side -/
theorem sgn {x : Int} {a0 a1 a2 a3 : Int} (ha : IsW x a0 a1 a2 a3) : ∃ (X U : Nat) (s : Bool) (u0 u1 u2 u3 : Int), V a0 a1 a2 a3 = (X : Int) ∧ (X : Int) = x % MM ∧ IsW (U : Int) u0 u1 u2 u3 ∧ U < 256 ^ 32 ∧ (s = true → U + X = 256 ^ 32 ∧ 0 < U ∧ bitf X 255 = 1) ∧ (s = false → U = X ∧ bitf X 255 = 0) ∧ decide (MM / 2 ≤ x % MM) = s ∧
    (∀ w : World, Calls Tryz.prog 91 #[.agg #[.int .u64 a0, .int .u64 a1, .int .u64 a2, .int .u64 a3]] w fun e w' => e = .returned (.bool s) ∧ Below w.heap.size w w') ∧
    (∀ w : World, Calls Tryz.prog 90 #[.agg #[.int .u64 a0, .int .u64 a1, .int .u64 a2, .int .u64 a3]] w fun e w' => e = .returned (.agg #[.int .u64 u0, .int .u64 u1, .int .u64 u2, .int .u64 u3]) ∧ Below w.heap.size w w') ∧
    (∀ w : World, Calls Tryz.prog 95 #[.agg #[.int .u64 a0, .int .u64 a1, .int .u64 a2, .int .u64 a3]] w fun e w' => e = .returned (.bool s) ∧ Below w.heap.size w w') ∧
    (∀ w : World, Calls Tryz.prog 93 #[.agg #[.int .u64 a0, .int .u64 a1, .int .u64 a2, .int .u64 a3]] w fun e w' => ∃ v, e = .returned v ∧ RowIs w' v 33 U ∧ Below w.heap.size w w') := by
  obtain ⟨X, hX, eX, lX⟩ := mod_nat ha
  have tb := top_bit lX
  have hN := negative_any x a0 a1 a2 a3
  have l2 := lX
  rw [p256n] at l2
  by_cases hn : MM / 2 ≤ x % MM
  · have hn2 := hn
    rw [← eX, MM_half] at hn2
    rw [if_pos (by omega)] at tb
    obtain ⟨u0, u1, u2, u3, iu⟩ := isW_ex (0 - x)
    have NE : ∀ w : World, Calls Tryz.prog 91 #[.agg #[.int .u64 a0, .int .u64 a1, .int .u64 a2, .int .u64 a3]] w fun e w' => e = .returned (.bool true) ∧ Below w.heap.size w w' := fun w => by have := hN w ha; simpa [hn] using this
    have NR : ∀ w : World, Calls Tryz.prog 95 #[.agg #[.int .u64 a0, .int .u64 a1, .int .u64 a2, .int .u64 a3]] w fun e w' => e = .returned (.bool true) ∧ Below w.heap.size w w' := negative_t a0 a1 a2 a3 X (fun W => of_is x a0 a1 a2 a3 W ha X hX) tb
    have SU : ∀ w : World, Calls Tryz.prog 13 #[.agg #[.int .u64 0, .int .u64 0, .int .u64 0, .int .u64 0], .agg #[.int .u64 a0, .int .u64 a1, .int .u64 a2, .int .u64 a3]] w fun e w' => e = .returned (.agg #[.int .u64 u0, .int .u64 u1, .int .u64 u2, .int .u64 u3]) ∧ Below w.heap.size w w' := fun w => sub_is 0 x 0 0 0 0 a0 a1 a2 a3 u0 u1 u2 u3 w isW_0 ha iu
    refine ⟨X, 256 ^ 32 - X, true, u0, u1, u2, u3, hX, eX, iu.cong ?_, by rw [p256n]; omega, fun _ => ⟨by rw [p256n]; omega, by rw [p256n]; omega, tb⟩, fun h => (by cases h), by simpa using hn, NE, magnitude_t a0 a1 a2 a3 u0 u1 u2 u3 NE (negate_c a0 a1 a2 a3 u0 u1 u2 u3 SU), NR, rsize_t a0 a1 a2 a3 X (ri_of ha hX) NR (Nat.le_of_lt lX)⟩
    rw [Int.ofNat_sub (Nat.le_of_lt lX), MM_nat, eX, show MM - x % MM = (0 - x % MM) + MM by omega, Int.add_emod_right, Int.sub_emod_emod]
  · have hn2 := hn
    rw [← eX, MM_half] at hn2
    rw [if_neg (by omega)] at tb
    have NE : ∀ w : World, Calls Tryz.prog 91 #[.agg #[.int .u64 a0, .int .u64 a1, .int .u64 a2, .int .u64 a3]] w fun e w' => e = .returned (.bool false) ∧ Below w.heap.size w w' := fun w => by have := hN w ha; simpa [hn] using this
    have NR : ∀ w : World, Calls Tryz.prog 95 #[.agg #[.int .u64 a0, .int .u64 a1, .int .u64 a2, .int .u64 a3]] w fun e w' => e = .returned (.bool false) ∧ Below w.heap.size w w' := negative_f a0 a1 a2 a3 X (fun W => of_is x a0 a1 a2 a3 W ha X hX) tb
    exact ⟨X, X, false, a0, a1, a2, a3, hX, eX, ha.cong (mod_lit eX), lX, fun h => (by cases h), fun _ => ⟨rfl, tb⟩, by simpa using hn, NE, magnitude_f a0 a1 a2 a3 NE, NR, rsize_f a0 a1 a2 a3 X (ri_of ha hX) NR⟩
theorem neg_word {q : Nat} {z0 z1 z2 z3 : Int} (h : IsW (0 - (q : Int)) z0 z1 z2 z3) : IsW ((256 ^ 32 - q % 256 ^ 32 : Nat) : Int) z0 z1 z2 z3 := by
  refine h.cong ?_
  have hl : q % 256 ^ 32 < 256 ^ 32 := Nat.mod_lt _ (by decide)
  rw [Int.ofNat_sub (Nat.le_of_lt hl), MM_nat, Int.natCast_emod, MM_nat, show MM - (q : Int) % MM = (0 - (q : Int) % MM) + MM by omega, Int.add_emod_right, Int.sub_emod_emod]
theorem nat_small {U : Nat} (h : U < 256 ^ 32) : (U : Int) % MM = (U : Int) := Int.emod_eq_of_lt (by omega) (by rw [← MM_nat]; exact_mod_cast h)
theorem pair_sdiv {x y : Int} {a0 a1 a2 a3 b0 b1 b2 b3 : Int} (ha : IsW x a0 a1 a2 a3) (hb : IsW y b0 b1 b2 b3) : Pair 22 23 #[.agg #[.int .u64 a0, .int .u64 a1, .int .u64 a2, .int .u64 a3], .agg #[.int .u64 b0, .int .u64 b1, .int .u64 b2, .int .u64 b3]] := by
  obtain ⟨X, U, s, u0, u1, u2, u3, hX, eX, iU, lU, sT, sF, _, NA, MA, RA, SA⟩ := sgn ha
  obtain ⟨Y, T, t, v0, v1, v2, v3, hY, eY, iT, lT, tT, tF, _, NB, MB, RB, SB⟩ := sgn hb
  obtain ⟨q0, q1, q2, q3, iq⟩ := isW_ex ((U / T : Nat) : Int)
  obtain ⟨z0, z1, z2, z3, iz⟩ := isW_ex (0 - ((U / T : Nat) : Int))
  have DI : ∀ w : World, Calls Tryz.prog 17 #[.agg #[.int .u64 u0, .int .u64 u1, .int .u64 u2, .int .u64 u3], .agg #[.int .u64 v0, .int .u64 v1, .int .u64 v2, .int .u64 v3]] w fun e w' => e = .returned (.agg #[.int .u64 q0, .int .u64 q1, .int .u64 q2, .int .u64 q3]) ∧ Below w.heap.size w w' := fun w => div_is (U : Int) (T : Int) u0 u1 u2 u3 v0 v1 v2 v3 q0 q1 q2 q3 w iU iT (by rw [nat_small lU, nat_small lT, dv, ← Int.natCast_ediv]; exact iq)
  have N1 := negate_c q0 q1 q2 q3 z0 z1 z2 z3 (fun w => sub_is 0 _ 0 0 0 0 q0 q1 q2 q3 z0 z1 z2 z3 w isW_0 iq iz)
  by_cases hz : T = 0
  · subst hz
    rw [Nat.div_zero] at iq iz
    obtain ⟨rfl, rfl, rfl, rfl⟩ := iq.eq isW_0 rfl
    obtain ⟨rfl, rfl, rfl, rfl⟩ := iz.eq isW_0 rfl
    refine ⟨0, 0, 0, 0, ?_, rsdiv_z a0 a1 a2 a3 b0 b1 b2 b3 U 0 SA SB (by decide)⟩
    cases s <;> cases t
    · exact sdiv_00 a0 a1 a2 a3 b0 b1 b2 b3 u0 u1 u2 u3 v0 v1 v2 v3 0 0 0 0 MA MB DI NA NB
    · exact sdiv_01 a0 a1 a2 a3 b0 b1 b2 b3 u0 u1 u2 u3 v0 v1 v2 v3 0 0 0 0 0 0 0 0 MA MB DI NA NB N1
    · exact sdiv_10 a0 a1 a2 a3 b0 b1 b2 b3 u0 u1 u2 u3 v0 v1 v2 v3 0 0 0 0 0 0 0 0 MA MB DI NA NB N1
    · exact sdiv_11 a0 a1 a2 a3 b0 b1 b2 b3 u0 u1 u2 u3 v0 v1 v2 v3 0 0 0 0 MA MB DI NA NB
  · have h1 : decide (T = 0) = false := by simpa using hz
    have h2 : 0 < T := by omega
    cases s <;> cases t
    · exact ⟨q0, q1, q2, q3, sdiv_00 a0 a1 a2 a3 b0 b1 b2 b3 u0 u1 u2 u3 v0 v1 v2 v3 q0 q1 q2 q3 MA MB DI NA NB, rsdiv_00 a0 a1 a2 a3 b0 b1 b2 b3 q0 q1 q2 q3 U T SA SB h1 h2 RA RB iq⟩
    · exact ⟨z0, z1, z2, z3, sdiv_01 a0 a1 a2 a3 b0 b1 b2 b3 u0 u1 u2 u3 v0 v1 v2 v3 q0 q1 q2 q3 z0 z1 z2 z3 MA MB DI NA NB N1, rsdiv_01 a0 a1 a2 a3 b0 b1 b2 b3 z0 z1 z2 z3 U T SA SB h1 h2 RA RB (neg_word iz)⟩
    · exact ⟨z0, z1, z2, z3, sdiv_10 a0 a1 a2 a3 b0 b1 b2 b3 u0 u1 u2 u3 v0 v1 v2 v3 q0 q1 q2 q3 z0 z1 z2 z3 MA MB DI NA NB N1, rsdiv_10 a0 a1 a2 a3 b0 b1 b2 b3 z0 z1 z2 z3 U T SA SB h1 h2 RA RB (neg_word iz)⟩
    · exact ⟨q0, q1, q2, q3, sdiv_11 a0 a1 a2 a3 b0 b1 b2 b3 u0 u1 u2 u3 v0 v1 v2 v3 q0 q1 q2 q3 MA MB DI NA NB, rsdiv_11 a0 a1 a2 a3 b0 b1 b2 b3 q0 q1 q2 q3 U T SA SB h1 h2 RA RB iq⟩
theorem pair_smod {x y : Int} {a0 a1 a2 a3 b0 b1 b2 b3 : Int} (ha : IsW x a0 a1 a2 a3) (hb : IsW y b0 b1 b2 b3) : Pair 24 25 #[.agg #[.int .u64 a0, .int .u64 a1, .int .u64 a2, .int .u64 a3], .agg #[.int .u64 b0, .int .u64 b1, .int .u64 b2, .int .u64 b3]] := by
  obtain ⟨X, U, s, u0, u1, u2, u3, hX, eX, iU, lU, sT, sF, _, NA, MA, RA, SA⟩ := sgn ha
  obtain ⟨Y, T, t, v0, v1, v2, v3, hY, eY, iT, lT, tT, tF, _, NB, MB, RB, SB⟩ := sgn hb
  obtain ⟨R, hR⟩ : ∃ R : Nat, md (U : Int) (T : Int) = (R : Int) := ⟨if T = 0 then 0 else U % T, by unfold md; by_cases h : T = 0; simp [h]; rw [if_neg (by omega), if_neg h, Int.natCast_emod]⟩
  obtain ⟨q0, q1, q2, q3, iq⟩ := isW_ex (R : Int)
  obtain ⟨z0, z1, z2, z3, iz⟩ := isW_ex (0 - (R : Int))
  have MO : ∀ w : World, Calls Tryz.prog 19 #[.agg #[.int .u64 u0, .int .u64 u1, .int .u64 u2, .int .u64 u3], .agg #[.int .u64 v0, .int .u64 v1, .int .u64 v2, .int .u64 v3]] w fun e w' => e = .returned (.agg #[.int .u64 q0, .int .u64 q1, .int .u64 q2, .int .u64 q3]) ∧ Below w.heap.size w w' := fun w => mod_is (U : Int) (T : Int) u0 u1 u2 u3 v0 v1 v2 v3 q0 q1 q2 q3 w iU iT (by rw [nat_small lU, nat_small lT, hR]; exact iq)
  have N1 := negate_c q0 q1 q2 q3 z0 z1 z2 z3 (fun w => sub_is 0 _ 0 0 0 0 q0 q1 q2 q3 z0 z1 z2 z3 w isW_0 iq iz)
  by_cases hz : T = 0
  · subst hz
    obtain rfl : R = 0 := by simp [md] at hR; omega
    obtain ⟨rfl, rfl, rfl, rfl⟩ := iq.eq isW_0 rfl
    obtain ⟨rfl, rfl, rfl, rfl⟩ := iz.eq isW_0 rfl
    refine ⟨0, 0, 0, 0, ?_, rsmod_z a0 a1 a2 a3 b0 b1 b2 b3 U 0 SA SB (by decide)⟩
    cases s
    · exact smod_0 a0 a1 a2 a3 b0 b1 b2 b3 u0 u1 u2 u3 v0 v1 v2 v3 0 0 0 0 MA MB MO NA
    · exact smod_1 a0 a1 a2 a3 b0 b1 b2 b3 u0 u1 u2 u3 v0 v1 v2 v3 0 0 0 0 0 0 0 0 MA MB MO NA N1
  · have h1 : decide (T = 0) = false := by simpa using hz
    have h2 : 0 < T := by omega
    obtain rfl : R = U % T := by rw [md, if_neg (by omega), ← Int.natCast_emod] at hR; omega
    cases s
    · exact ⟨q0, q1, q2, q3, smod_0 a0 a1 a2 a3 b0 b1 b2 b3 u0 u1 u2 u3 v0 v1 v2 v3 q0 q1 q2 q3 MA MB MO NA, rsmod_0 a0 a1 a2 a3 b0 b1 b2 b3 q0 q1 q2 q3 U T SA SB h1 h2 RA iq⟩
    · exact ⟨z0, z1, z2, z3, smod_1 a0 a1 a2 a3 b0 b1 b2 b3 u0 u1 u2 u3 v0 v1 v2 v3 q0 q1 q2 q3 z0 z1 z2 z3 MA MB MO NA N1, rsmod_1 a0 a1 a2 a3 b0 b1 b2 b3 z0 z1 z2 z3 U T SA SB h1 h2 RA (neg_word iz)⟩
theorem slt_both {x y : Int} {a0 a1 a2 a3 b0 b1 b2 b3 : Int} (ha : IsW x a0 a1 a2 a3) (hb : IsW y b0 b1 b2 b3) : ∃ r : Bool, decide ((x + MM / 2) % MM < (y + MM / 2) % MM) = r ∧ (∀ w : World, Calls Tryz.prog 27 #[.agg #[.int .u64 a0, .int .u64 a1, .int .u64 a2, .int .u64 a3], .agg #[.int .u64 b0, .int .u64 b1, .int .u64 b2, .int .u64 b3]] w fun e w' => e = .returned (.bool r) ∧ Below w.heap.size w w') := by
  obtain ⟨X, U, s, u0, u1, u2, u3, hX, eX, iU, lU, sT, sF, ds, NA, MA, RA, SA⟩ := sgn ha
  obtain ⟨Y, T, t, v0, v1, v2, v3, hY, eY, iT, lT, tT, tF, dt, NB, MB, RB, SB⟩ := sgn hb
  refine ⟨_, rfl, ?_⟩
  have key : ∀ {z : Int} {Z : Nat}, (Z : Int) = z % MM → (z + MM / 2) % MM = ((Z : Int) + MM / 2) % MM := fun {z Z} e => by rw [e, Int.emod_add_emod]
  have CM : ∀ W : World, Calls Tryz.prog 98 #[.agg #[.int .u64 a0, .int .u64 a1, .int .u64 a2, .int .u64 a3], .agg #[.int .u64 b0, .int .u64 b1, .int .u64 b2, .int .u64 b3]] W fun e w' => e = .returned (.int .i64 (cmpv (x % MM) (y % MM))) ∧ Below W.heap.size W w' := fun W => rcmp_any x y a0 a1 a2 a3 b0 b1 b2 b3 W ha hb
  have rX : (0 : Int) ≤ x % MM ∧ x % MM < MM := ⟨Int.emod_nonneg _ (by have := MM_pos; omega), Int.emod_lt_of_pos _ MM_pos⟩
  have rY : (0 : Int) ≤ y % MM ∧ y % MM < MM := ⟨Int.emod_nonneg _ (by have := MM_pos; omega), Int.emod_lt_of_pos _ MM_pos⟩
  rw [key eX, key eY, eX, eY]
  generalize x % MM = p at *
  generalize y % MM = q at *
  rw [MM_half] at ds dt ⊢
  rw [MM_val] at rX rY ⊢
  have cm : (cmpv p q < 0) ↔ p < q := by have := cmpv_lt p q; simpa using this
  cases s <;> cases t <;> simp only [decide_eq_true_eq, decide_eq_false_iff_not] at ds dt
  · by_cases h : p < q
    · rw [show decide _ = true by rw [decide_eq_true_eq]; omega]
      exact rslt_00t a0 a1 a2 a3 b0 b1 b2 b3 _ RA RB CM (cm.2 h)
    · rw [show decide _ = false by rw [decide_eq_false_iff_not]; omega]
      exact rslt_00f a0 a1 a2 a3 b0 b1 b2 b3 _ RA RB CM (fun hh => h (cm.1 hh))
  · rw [show decide _ = false by rw [decide_eq_false_iff_not]; omega]
    exact rslt_01 a0 a1 a2 a3 b0 b1 b2 b3 RA RB
  · rw [show decide _ = true by rw [decide_eq_true_eq]; omega]
    exact rslt_10 a0 a1 a2 a3 b0 b1 b2 b3 RA RB
  · by_cases h : p < q
    · rw [show decide _ = true by rw [decide_eq_true_eq]; omega]
      exact rslt_11t a0 a1 a2 a3 b0 b1 b2 b3 _ RA RB CM (cm.2 h)
    · rw [show decide _ = false by rw [decide_eq_false_iff_not]; omega]
      exact rslt_11f a0 a1 a2 a3 b0 b1 b2 b3 _ RA RB CM (fun hh => h (cm.1 hh))
theorem pair_slt {x y : Int} {a0 a1 a2 a3 b0 b1 b2 b3 : Int} (ha : IsW x a0 a1 a2 a3) (hb : IsW y b0 b1 b2 b3) : PairB 26 27 #[.agg #[.int .u64 a0, .int .u64 a1, .int .u64 a2, .int .u64 a3], .agg #[.int .u64 b0, .int .u64 b1, .int .u64 b2, .int .u64 b3]] := by
  obtain ⟨r, hr, h⟩ := slt_both ha hb
  exact ⟨r, fun w => slt_is a0 a1 a2 a3 b0 b1 b2 b3 w ha hb r hr, h⟩
theorem pair_sgt {x y : Int} {a0 a1 a2 a3 b0 b1 b2 b3 : Int} (ha : IsW x a0 a1 a2 a3) (hb : IsW y b0 b1 b2 b3) : PairB 28 29 #[.agg #[.int .u64 a0, .int .u64 a1, .int .u64 a2, .int .u64 a3], .agg #[.int .u64 b0, .int .u64 b1, .int .u64 b2, .int .u64 b3]] := by
  obtain ⟨r, hr, h⟩ := slt_both hb ha
  refine ⟨r, fun w => sgt_is a0 a1 a2 a3 b0 b1 b2 b3 w ha hb r hr, ?_⟩
  cases r
  · exact rsgt_f a0 a1 a2 a3 b0 b1 b2 b3 h
  · exact rsgt_t a0 a1 a2 a3 b0 b1 b2 b3 h
end Go.Proofs.YtpadpmkfhljiiaaGreat
