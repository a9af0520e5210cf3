/- WordResidues: the walk, case by case. -/
import Derived.Test.YtpadpmkfhljiiaaFb
import Derived.Test.YtpadpmkfhljiiaaFc
import Derived.Test.YtpadpmkfhljiiaaWe
import Derived.Test.YtpadpmkfhljiiaaWis
import Derived.Test.YtpadpmkfhljiiaaWd
namespace Go.Proofs.Ytpadpmkfhljiiaa
open Go.RowKit
set_option maxHeartbeats 4000000 in
set_option maxRecDepth 100000 in
theorem wre_2 (a0 a1 a2 a3 b0 b1 b2 b3 c0 c1 c2 c3 p0 p1 p2 p3 q0 q1 q2 q3 r0 r1 r2 r3 s0 s1 s2 s3 n0 n1 n2 n3 t0 t1 t2 t3 o0 o1 o2 o3 : Int) (AX : ∀ w : World, Calls Try.prog 44 #[.agg #[.int .u64 a0, .int .u64 a1, .int .u64 a2, .int .u64 a3], .agg #[.int .u64 b0, .int .u64 b1, .int .u64 b2, .int .u64 b3], .agg #[.int .u64 c0, .int .u64 c1, .int .u64 c2, .int .u64 c3]] w fun e w' => e = .returned (.agg #[.int .u64 p0, .int .u64 p1, .int .u64 p2, .int .u64 p3]) ∧ Below w.heap.size w w') (MX : ∀ w : World, Calls Try.prog 45 #[.agg #[.int .u64 a0, .int .u64 a1, .int .u64 a2, .int .u64 a3], .agg #[.int .u64 b0, .int .u64 b1, .int .u64 b2, .int .u64 b3], .agg #[.int .u64 c0, .int .u64 c1, .int .u64 c2, .int .u64 c3]] w fun e w' => e = .returned (.agg #[.int .u64 q0, .int .u64 q1, .int .u64 q2, .int .u64 q3]) ∧ Below w.heap.size w w') (L1 : ∀ w : World, Calls Try.prog 20 #[.agg #[.int .u64 p0, .int .u64 p1, .int .u64 p2, .int .u64 p3], .agg #[.int .u64 c0, .int .u64 c1, .int .u64 c2, .int .u64 c3]] w fun e w' => e = .returned (.bool true) ∧ Below w.heap.size w w') (L2 : ∀ w : World, Calls Try.prog 20 #[.agg #[.int .u64 q0, .int .u64 q1, .int .u64 q2, .int .u64 q3], .agg #[.int .u64 c0, .int .u64 c1, .int .u64 c2, .int .u64 c3]] w fun e w' => e = .returned (.bool true) ∧ Below w.heap.size w w') (AB : ∀ w : World, Calls Try.prog 44 #[.agg #[.int .u64 b0, .int .u64 b1, .int .u64 b2, .int .u64 b3], .agg #[.int .u64 a0, .int .u64 a1, .int .u64 a2, .int .u64 a3], .agg #[.int .u64 c0, .int .u64 c1, .int .u64 c2, .int .u64 c3]] w fun e w' => e = .returned (.agg #[.int .u64 p0, .int .u64 p1, .int .u64 p2, .int .u64 p3]) ∧ Below w.heap.size w w') (MB : ∀ w : World, Calls Try.prog 45 #[.agg #[.int .u64 b0, .int .u64 b1, .int .u64 b2, .int .u64 b3], .agg #[.int .u64 a0, .int .u64 a1, .int .u64 a2, .int .u64 a3], .agg #[.int .u64 c0, .int .u64 c1, .int .u64 c2, .int .u64 c3]] w fun e w' => e = .returned (.agg #[.int .u64 q0, .int .u64 q1, .int .u64 q2, .int .u64 q3]) ∧ Below w.heap.size w w') (A0 : ∀ w : World, Calls Try.prog 44 #[.agg #[.int .u64 a0, .int .u64 a1, .int .u64 a2, .int .u64 a3], .agg #[.int .u64 0, .int .u64 0, .int .u64 0, .int .u64 0], .agg #[.int .u64 c0, .int .u64 c1, .int .u64 c2, .int .u64 c3]] w fun e w' => e = .returned (.agg #[.int .u64 r0, .int .u64 r1, .int .u64 r2, .int .u64 r3]) ∧ Below w.heap.size w w') (MO : ∀ w : World, Calls Try.prog 39 #[.agg #[.int .u64 a0, .int .u64 a1, .int .u64 a2, .int .u64 a3], .agg #[.int .u64 c0, .int .u64 c1, .int .u64 c2, .int .u64 c3]] w fun e w' => e = .returned (.agg #[.int .u64 r0, .int .u64 r1, .int .u64 r2, .int .u64 r3]) ∧ Below w.heap.size w w') (M0 : ∀ w : World, Calls Try.prog 45 #[.agg #[.int .u64 a0, .int .u64 a1, .int .u64 a2, .int .u64 a3], .agg #[.int .u64 0, .int .u64 0, .int .u64 0, .int .u64 0], .agg #[.int .u64 c0, .int .u64 c1, .int .u64 c2, .int .u64 c3]] w fun e w' => e = .returned (.agg #[.int .u64 0, .int .u64 0, .int .u64 0, .int .u64 0]) ∧ Below w.heap.size w w') (MS : ∀ w : World, Calls Try.prog 39 #[.agg #[.int .u64 b0, .int .u64 b1, .int .u64 b2, .int .u64 b3], .agg #[.int .u64 c0, .int .u64 c1, .int .u64 c2, .int .u64 c3]] w fun e w' => e = .returned (.agg #[.int .u64 s0, .int .u64 s1, .int .u64 s2, .int .u64 s3]) ∧ Below w.heap.size w w') (AR : ∀ w : World, Calls Try.prog 44 #[.agg #[.int .u64 r0, .int .u64 r1, .int .u64 r2, .int .u64 r3], .agg #[.int .u64 s0, .int .u64 s1, .int .u64 s2, .int .u64 s3], .agg #[.int .u64 c0, .int .u64 c1, .int .u64 c2, .int .u64 c3]] w fun e w' => e = .returned (.agg #[.int .u64 p0, .int .u64 p1, .int .u64 p2, .int .u64 p3]) ∧ Below w.heap.size w w') (NX : ∀ w : World, Calls Try.prog 33 #[.agg #[.int .u64 b0, .int .u64 b1, .int .u64 b2, .int .u64 b3], .agg #[.int .u64 1, .int .u64 0, .int .u64 0, .int .u64 0]] w fun e w' => e = .returned (.agg #[.int .u64 n0, .int .u64 n1, .int .u64 n2, .int .u64 n3]) ∧ Below w.heap.size w w') (AN : ∀ w : World, Calls Try.prog 44 #[.agg #[.int .u64 a0, .int .u64 a1, .int .u64 a2, .int .u64 a3], .agg #[.int .u64 n0, .int .u64 n1, .int .u64 n2, .int .u64 n3], .agg #[.int .u64 c0, .int .u64 c1, .int .u64 c2, .int .u64 c3]] w fun e w' => e = .returned (.agg #[.int .u64 t0, .int .u64 t1, .int .u64 t2, .int .u64 t3]) ∧ Below w.heap.size w w') (A1 : ∀ w : World, Calls Try.prog 44 #[.agg #[.int .u64 p0, .int .u64 p1, .int .u64 p2, .int .u64 p3], .agg #[.int .u64 1, .int .u64 0, .int .u64 0, .int .u64 0], .agg #[.int .u64 c0, .int .u64 c1, .int .u64 c2, .int .u64 c3]] w fun e w' => e = .returned (.agg #[.int .u64 t0, .int .u64 t1, .int .u64 t2, .int .u64 t3]) ∧ Below w.heap.size w w') (MN : ∀ w : World, Calls Try.prog 45 #[.agg #[.int .u64 a0, .int .u64 a1, .int .u64 a2, .int .u64 a3], .agg #[.int .u64 n0, .int .u64 n1, .int .u64 n2, .int .u64 n3], .agg #[.int .u64 c0, .int .u64 c1, .int .u64 c2, .int .u64 c3]] w fun e w' => e = .returned (.agg #[.int .u64 o0, .int .u64 o1, .int .u64 o2, .int .u64 o3]) ∧ Below w.heap.size w w') (AQ : ∀ w : World, Calls Try.prog 44 #[.agg #[.int .u64 q0, .int .u64 q1, .int .u64 q2, .int .u64 q3], .agg #[.int .u64 a0, .int .u64 a1, .int .u64 a2, .int .u64 a3], .agg #[.int .u64 c0, .int .u64 c1, .int .u64 c2, .int .u64 c3]] w fun e w' => e = .returned (.agg #[.int .u64 o0, .int .u64 o1, .int .u64 o2, .int .u64 o3]) ∧ Below w.heap.size w w') (E0 : ∀ W : World, Sem.run Try.prog (Op.equalIn 10000 24 (.agg #[.int .u64 c0, .int .u64 c1, .int .u64 c2, .int .u64 c3]) (.agg #[.int .u64 0, .int .u64 0, .int .u64 0, .int .u64 0])) W = .ok false W) (E1 : ∀ W : World, Sem.run Try.prog (Op.equalIn 10000 24 (.agg #[.int .u64 b0, .int .u64 b1, .int .u64 b2, .int .u64 b3]) (.agg #[.int .u64 18446744073709551615, .int .u64 18446744073709551615, .int .u64 18446744073709551615, .int .u64 18446744073709551615])) W = .ok false W) (w : World) :
    Calls Try.prog 9 #[.agg #[.int .u64 a0, .int .u64 a1, .int .u64 a2, .int .u64 a3], .agg #[.int .u64 b0, .int .u64 b1, .int .u64 b2, .int .u64 b3], .agg #[.int .u64 c0, .int .u64 c1, .int .u64 c2, .int .u64 c3]] w fun e w' => e = .returned (.bool true) ∧ Below w.heap.size w w' := by
  have eqs := eqw_same
  have HAX : Hid (∀ w : World, Calls Try.prog 44 #[.agg #[.int .u64 a0, .int .u64 a1, .int .u64 a2, .int .u64 a3], .agg #[.int .u64 b0, .int .u64 b1, .int .u64 b2, .int .u64 b3], .agg #[.int .u64 c0, .int .u64 c1, .int .u64 c2, .int .u64 c3]] w fun e w' => e = .returned (.agg #[.int .u64 p0, .int .u64 p1, .int .u64 p2, .int .u64 p3]) ∧ Below w.heap.size w w') := AX
  have HMX : Hid (∀ w : World, Calls Try.prog 45 #[.agg #[.int .u64 a0, .int .u64 a1, .int .u64 a2, .int .u64 a3], .agg #[.int .u64 b0, .int .u64 b1, .int .u64 b2, .int .u64 b3], .agg #[.int .u64 c0, .int .u64 c1, .int .u64 c2, .int .u64 c3]] w fun e w' => e = .returned (.agg #[.int .u64 q0, .int .u64 q1, .int .u64 q2, .int .u64 q3]) ∧ Below w.heap.size w w') := MX
  have HL1 : Hid (∀ w : World, Calls Try.prog 20 #[.agg #[.int .u64 p0, .int .u64 p1, .int .u64 p2, .int .u64 p3], .agg #[.int .u64 c0, .int .u64 c1, .int .u64 c2, .int .u64 c3]] w fun e w' => e = .returned (.bool true) ∧ Below w.heap.size w w') := L1
  have HL2 : Hid (∀ w : World, Calls Try.prog 20 #[.agg #[.int .u64 q0, .int .u64 q1, .int .u64 q2, .int .u64 q3], .agg #[.int .u64 c0, .int .u64 c1, .int .u64 c2, .int .u64 c3]] w fun e w' => e = .returned (.bool true) ∧ Below w.heap.size w w') := L2
  have HAB : Hid (∀ w : World, Calls Try.prog 44 #[.agg #[.int .u64 b0, .int .u64 b1, .int .u64 b2, .int .u64 b3], .agg #[.int .u64 a0, .int .u64 a1, .int .u64 a2, .int .u64 a3], .agg #[.int .u64 c0, .int .u64 c1, .int .u64 c2, .int .u64 c3]] w fun e w' => e = .returned (.agg #[.int .u64 p0, .int .u64 p1, .int .u64 p2, .int .u64 p3]) ∧ Below w.heap.size w w') := AB
  have HMB : Hid (∀ w : World, Calls Try.prog 45 #[.agg #[.int .u64 b0, .int .u64 b1, .int .u64 b2, .int .u64 b3], .agg #[.int .u64 a0, .int .u64 a1, .int .u64 a2, .int .u64 a3], .agg #[.int .u64 c0, .int .u64 c1, .int .u64 c2, .int .u64 c3]] w fun e w' => e = .returned (.agg #[.int .u64 q0, .int .u64 q1, .int .u64 q2, .int .u64 q3]) ∧ Below w.heap.size w w') := MB
  have HA0 : Hid (∀ w : World, Calls Try.prog 44 #[.agg #[.int .u64 a0, .int .u64 a1, .int .u64 a2, .int .u64 a3], .agg #[.int .u64 0, .int .u64 0, .int .u64 0, .int .u64 0], .agg #[.int .u64 c0, .int .u64 c1, .int .u64 c2, .int .u64 c3]] w fun e w' => e = .returned (.agg #[.int .u64 r0, .int .u64 r1, .int .u64 r2, .int .u64 r3]) ∧ Below w.heap.size w w') := A0
  have HMO : Hid (∀ w : World, Calls Try.prog 39 #[.agg #[.int .u64 a0, .int .u64 a1, .int .u64 a2, .int .u64 a3], .agg #[.int .u64 c0, .int .u64 c1, .int .u64 c2, .int .u64 c3]] w fun e w' => e = .returned (.agg #[.int .u64 r0, .int .u64 r1, .int .u64 r2, .int .u64 r3]) ∧ Below w.heap.size w w') := MO
  have HM0 : Hid (∀ w : World, Calls Try.prog 45 #[.agg #[.int .u64 a0, .int .u64 a1, .int .u64 a2, .int .u64 a3], .agg #[.int .u64 0, .int .u64 0, .int .u64 0, .int .u64 0], .agg #[.int .u64 c0, .int .u64 c1, .int .u64 c2, .int .u64 c3]] w fun e w' => e = .returned (.agg #[.int .u64 0, .int .u64 0, .int .u64 0, .int .u64 0]) ∧ Below w.heap.size w w') := M0
  have HMS : Hid (∀ w : World, Calls Try.prog 39 #[.agg #[.int .u64 b0, .int .u64 b1, .int .u64 b2, .int .u64 b3], .agg #[.int .u64 c0, .int .u64 c1, .int .u64 c2, .int .u64 c3]] w fun e w' => e = .returned (.agg #[.int .u64 s0, .int .u64 s1, .int .u64 s2, .int .u64 s3]) ∧ Below w.heap.size w w') := MS
  have HAR : Hid (∀ w : World, Calls Try.prog 44 #[.agg #[.int .u64 r0, .int .u64 r1, .int .u64 r2, .int .u64 r3], .agg #[.int .u64 s0, .int .u64 s1, .int .u64 s2, .int .u64 s3], .agg #[.int .u64 c0, .int .u64 c1, .int .u64 c2, .int .u64 c3]] w fun e w' => e = .returned (.agg #[.int .u64 p0, .int .u64 p1, .int .u64 p2, .int .u64 p3]) ∧ Below w.heap.size w w') := AR
  have HNX : Hid (∀ w : World, Calls Try.prog 33 #[.agg #[.int .u64 b0, .int .u64 b1, .int .u64 b2, .int .u64 b3], .agg #[.int .u64 1, .int .u64 0, .int .u64 0, .int .u64 0]] w fun e w' => e = .returned (.agg #[.int .u64 n0, .int .u64 n1, .int .u64 n2, .int .u64 n3]) ∧ Below w.heap.size w w') := NX
  have HAN : Hid (∀ w : World, Calls Try.prog 44 #[.agg #[.int .u64 a0, .int .u64 a1, .int .u64 a2, .int .u64 a3], .agg #[.int .u64 n0, .int .u64 n1, .int .u64 n2, .int .u64 n3], .agg #[.int .u64 c0, .int .u64 c1, .int .u64 c2, .int .u64 c3]] w fun e w' => e = .returned (.agg #[.int .u64 t0, .int .u64 t1, .int .u64 t2, .int .u64 t3]) ∧ Below w.heap.size w w') := AN
  have HA1 : Hid (∀ w : World, Calls Try.prog 44 #[.agg #[.int .u64 p0, .int .u64 p1, .int .u64 p2, .int .u64 p3], .agg #[.int .u64 1, .int .u64 0, .int .u64 0, .int .u64 0], .agg #[.int .u64 c0, .int .u64 c1, .int .u64 c2, .int .u64 c3]] w fun e w' => e = .returned (.agg #[.int .u64 t0, .int .u64 t1, .int .u64 t2, .int .u64 t3]) ∧ Below w.heap.size w w') := A1
  have HMN : Hid (∀ w : World, Calls Try.prog 45 #[.agg #[.int .u64 a0, .int .u64 a1, .int .u64 a2, .int .u64 a3], .agg #[.int .u64 n0, .int .u64 n1, .int .u64 n2, .int .u64 n3], .agg #[.int .u64 c0, .int .u64 c1, .int .u64 c2, .int .u64 c3]] w fun e w' => e = .returned (.agg #[.int .u64 o0, .int .u64 o1, .int .u64 o2, .int .u64 o3]) ∧ Below w.heap.size w w') := MN
  have HAQ : Hid (∀ w : World, Calls Try.prog 44 #[.agg #[.int .u64 q0, .int .u64 q1, .int .u64 q2, .int .u64 q3], .agg #[.int .u64 a0, .int .u64 a1, .int .u64 a2, .int .u64 a3], .agg #[.int .u64 c0, .int .u64 c1, .int .u64 c2, .int .u64 c3]] w fun e w' => e = .returned (.agg #[.int .u64 o0, .int .u64 o1, .int .u64 o2, .int .u64 o3]) ∧ Below w.heap.size w w') := AQ
  clear AX MX L1 L2 AB MB A0 MO M0 MS AR NX AN A1 MN AQ
  go_enter Try.func9, Try.ntmps9
  go_upto_region 1 with fail
  have X1 : Hid (Bx w [(w.heap.size + 1 + 1, c0, c1, c2, c3), (w.heap.size + 1, b0, b1, b2, b3), (w.heap.size, a0, a1, a2, a3)] (((w.alloc (.cells #[.int .u64 a0, .int .u64 a1, .int .u64 a2, .int .u64 a3] 24)).alloc (.cells #[.int .u64 b0, .int .u64 b1, .int .u64 b2, .int .u64 b3] 24)).alloc (.cells #[.int .u64 c0, .int .u64 c1, .int .u64 c2, .int .u64 c3] 24))) := by
    have h := (((Bx.start w).alloc a0 a1 a2 a3).alloc b0 b1 b2 b3).alloc c0 c1 c2 c3
    (try simp only [World.size_alloc] at h)
    exact h
  generalize (((w.alloc (.cells #[.int .u64 a0, .int .u64 a1, .int .u64 a2, .int .u64 a3] 24)).alloc (.cells #[.int .u64 b0, .int .u64 b1, .int .u64 b2, .int .u64 b3] 24)).alloc (.cells #[.int .u64 c0, .int .u64 c1, .int .u64 c2, .int .u64 c3] 24)) = g2 at X1 ⊢
  obtain ⟨k3_0_0, k3_0_1, k3_0_2, k3_0_3, k3_0_4, k3_0_5, k3_0_6, k3_0_7⟩ := X1.out.f0 (List.Mem.head _)
  obtain ⟨k3_1_0, k3_1_1, k3_1_2, k3_1_3, k3_1_4, k3_1_5, k3_1_6, k3_1_7⟩ := X1.out.f0 (List.Mem.tail _ (List.Mem.head _))
  obtain ⟨k3_2_0, k3_2_1, k3_2_2, k3_2_3, k3_2_4, k3_2_5, k3_2_6, k3_2_7⟩ := X1.out.f0 (List.Mem.tail _ (List.Mem.tail _ (List.Mem.head _)))
  go_upto_region 2 with (first | (go_at_call 44; refine (HAX.out _).mono ?_; rintro e g5 ⟨rfl, hB⟩; (have X4 : Hid (Bx w [(w.heap.size + 1 + 1, c0, c1, c2, c3), (w.heap.size + 1, b0, b1, b2, b3), (w.heap.size, a0, a1, a2, a3)] g5) := X1.out.past hB); clear hB X1 k3_0_0 k3_0_1 k3_0_2 k3_0_3 k3_0_4 k3_0_5 k3_0_6 k3_0_7 k3_1_0 k3_1_1 k3_1_2 k3_1_3 k3_1_4 k3_1_5 k3_1_6 k3_1_7 k3_2_0 k3_2_1 k3_2_2 k3_2_3 k3_2_4 k3_2_5 k3_2_6 k3_2_7; obtain ⟨k6_0_0, k6_0_1, k6_0_2, k6_0_3, k6_0_4, k6_0_5, k6_0_6, k6_0_7⟩ := X4.out.f0 (List.Mem.head _); obtain ⟨k6_1_0, k6_1_1, k6_1_2, k6_1_3, k6_1_4, k6_1_5, k6_1_6, k6_1_7⟩ := X4.out.f0 (List.Mem.tail _ (List.Mem.head _)); obtain ⟨k6_2_0, k6_2_1, k6_2_2, k6_2_3, k6_2_4, k6_2_5, k6_2_6, k6_2_7⟩ := X4.out.f0 (List.Mem.tail _ (List.Mem.tail _ (List.Mem.head _)))))
  clear k6_0_0 k6_0_1 k6_0_2 k6_0_3 k6_0_4 k6_0_5 k6_0_6 k6_0_7 k6_1_0 k6_1_1 k6_1_2 k6_1_3 k6_1_4 k6_1_5 k6_1_6 k6_1_7 k6_2_0 k6_2_1 k6_2_2 k6_2_3 k6_2_4 k6_2_5 k6_2_6 k6_2_7
  have X9 : Hid (Bx w ((g5.heap.size, p0, p1, p2, p3) :: [(w.heap.size + 1 + 1, c0, c1, c2, c3), (w.heap.size + 1, b0, b1, b2, b3), (w.heap.size, a0, a1, a2, a3)]) (g5.alloc (.cells #[.int .u64 p0, .int .u64 p1, .int .u64 p2, .int .u64 p3] 24))) := X4.out.alloc p0 p1 p2 p3
  have lbk7_0 : w.heap.size + 1 + 1 < g5.heap.size := X4.out.lt _ (List.Mem.head _)
  have lbk7_1 : w.heap.size + 1 < g5.heap.size := X4.out.lt _ (List.Mem.tail _ (List.Mem.head _))
  have lbk7_2 : w.heap.size < g5.heap.size := X4.out.lt _ (List.Mem.tail _ (List.Mem.tail _ (List.Mem.head _)))
  generalize g5.alloc (.cells #[.int .u64 p0, .int .u64 p1, .int .u64 p2, .int .u64 p3] 24) = g8 at X9 ⊢
  generalize g5.heap.size = bk7 at X9 lbk7_0 lbk7_1 lbk7_2 ⊢
  clear X4
  obtain ⟨k10_1_0, k10_1_1, k10_1_2, k10_1_3, k10_1_4, k10_1_5, k10_1_6, k10_1_7⟩ := X9.out.f0 (List.Mem.tail _ (List.Mem.head _))
  obtain ⟨k10_2_0, k10_2_1, k10_2_2, k10_2_3, k10_2_4, k10_2_5, k10_2_6, k10_2_7⟩ := X9.out.f0 (List.Mem.tail _ (List.Mem.tail _ (List.Mem.head _)))
  obtain ⟨k10_3_0, k10_3_1, k10_3_2, k10_3_3, k10_3_4, k10_3_5, k10_3_6, k10_3_7⟩ := X9.out.f0 (List.Mem.tail _ (List.Mem.tail _ (List.Mem.tail _ (List.Mem.head _))))
  go_upto_region 3 with (first | (go_at_call 45; refine (HMX.out _).mono ?_; rintro e g12 ⟨rfl, hB⟩; (have X11 : Hid (Bx w [(bk7, p0, p1, p2, p3), (w.heap.size + 1 + 1, c0, c1, c2, c3), (w.heap.size + 1, b0, b1, b2, b3), (w.heap.size, a0, a1, a2, a3)] g12) := X9.out.past hB); clear hB X9 k10_1_0 k10_1_1 k10_1_2 k10_1_3 k10_1_4 k10_1_5 k10_1_6 k10_1_7 k10_2_0 k10_2_1 k10_2_2 k10_2_3 k10_2_4 k10_2_5 k10_2_6 k10_2_7 k10_3_0 k10_3_1 k10_3_2 k10_3_3 k10_3_4 k10_3_5 k10_3_6 k10_3_7; obtain ⟨k13_1_0, k13_1_1, k13_1_2, k13_1_3, k13_1_4, k13_1_5, k13_1_6, k13_1_7⟩ := X11.out.f0 (List.Mem.tail _ (List.Mem.head _)); obtain ⟨k13_2_0, k13_2_1, k13_2_2, k13_2_3, k13_2_4, k13_2_5, k13_2_6, k13_2_7⟩ := X11.out.f0 (List.Mem.tail _ (List.Mem.tail _ (List.Mem.head _))); obtain ⟨k13_3_0, k13_3_1, k13_3_2, k13_3_3, k13_3_4, k13_3_5, k13_3_6, k13_3_7⟩ := X11.out.f0 (List.Mem.tail _ (List.Mem.tail _ (List.Mem.tail _ (List.Mem.head _))))))
  clear k13_1_0 k13_1_1 k13_1_2 k13_1_3 k13_1_4 k13_1_5 k13_1_6 k13_1_7 k13_2_0 k13_2_1 k13_2_2 k13_2_3 k13_2_4 k13_2_5 k13_2_6 k13_2_7 k13_3_0 k13_3_1 k13_3_2 k13_3_3 k13_3_4 k13_3_5 k13_3_6 k13_3_7
  have X16 : Hid (Bx w ((g12.heap.size, q0, q1, q2, q3) :: [(bk7, p0, p1, p2, p3), (w.heap.size + 1 + 1, c0, c1, c2, c3), (w.heap.size + 1, b0, b1, b2, b3), (w.heap.size, a0, a1, a2, a3)]) (g12.alloc (.cells #[.int .u64 q0, .int .u64 q1, .int .u64 q2, .int .u64 q3] 24))) := X11.out.alloc q0 q1 q2 q3
  have lbk14_0 : bk7 < g12.heap.size := X11.out.lt _ (List.Mem.head _)
  have lbk14_1 : w.heap.size + 1 + 1 < g12.heap.size := X11.out.lt _ (List.Mem.tail _ (List.Mem.head _))
  have lbk14_2 : w.heap.size + 1 < g12.heap.size := X11.out.lt _ (List.Mem.tail _ (List.Mem.tail _ (List.Mem.head _)))
  have lbk14_3 : w.heap.size < g12.heap.size := X11.out.lt _ (List.Mem.tail _ (List.Mem.tail _ (List.Mem.tail _ (List.Mem.head _))))
  generalize g12.alloc (.cells #[.int .u64 q0, .int .u64 q1, .int .u64 q2, .int .u64 q3] 24) = g15 at X16 ⊢
  generalize g12.heap.size = bk14 at X16 lbk14_0 lbk14_1 lbk14_2 lbk14_3 ⊢
  clear X11
  obtain ⟨k17_2_0, k17_2_1, k17_2_2, k17_2_3, k17_2_4, k17_2_5, k17_2_6, k17_2_7⟩ := X16.out.f0 (List.Mem.tail _ (List.Mem.tail _ (List.Mem.head _)))
  go_upto_region 5 with fail
  clear k17_2_0 k17_2_1 k17_2_2 k17_2_3 k17_2_4 k17_2_5 k17_2_6 k17_2_7
  refine wp_region_held_drew (S := fun w' => Bx w [(bk14, q0, q1, q2, q3), (bk7, p0, p1, p2, p3), (w.heap.size + 1 + 1, c0, c1, c2, c3), (w.heap.size + 1, b0, b1, b2, b3), (w.heap.size, a0, a1, a2, a3)] w') (by kernel_rfl) X16.out.drew (fun hHeld => ?_)
  generalize g15.drew = g18 at hHeld ⊢
  clear X16
  refine wpAnyH_take (i := 0) (v := .agg #[.int .u64 p0, .int .u64 p1, .int .u64 p2, .int .u64 p3]) op0 (by kernel_rfl) (by kernel_rfl) (by kernel_rfl) (fun _ _ _ h => h) (Or.inl ⟨by rfl, fun W hS => ?_⟩) hHeld ?_
  · obtain ⟨c0, c1, c2, c3, _⟩ := hS.f0 (List.Mem.tail _ (List.Mem.head _))
    go_simp
  simp only [Act.put, List.setIfInBounds_toArray, List.set_cons_zero, List.set_cons_succ]
  refine wpAnyH_take (i := 1) (v := .agg #[.int .u64 c0, .int .u64 c1, .int .u64 c2, .int .u64 c3]) op1 (by kernel_rfl) (by kernel_rfl) (by kernel_rfl) (fun _ _ _ h => h) (Or.inl ⟨by rfl, fun W hS => ?_⟩) hHeld ?_
  · obtain ⟨c0, c1, c2, c3, _⟩ := hS.f0 (List.Mem.tail _ (List.Mem.tail _ (List.Mem.head _)))
    go_simp
  simp only [Act.put, List.setIfInBounds_toArray, List.set_cons_zero, List.set_cons_succ]
  refine wpAnyH_ready (rs := [2]) (by kernel_rfl) (by simp) ?_
  refine AllReadyH.cons op2 (fun K hK => ?_) AllReadyH.nil
  rw [if_pos (by rfl)]
  go_simp
  refine (HL1.out _).mono ?_
  rintro e g19 ⟨rfl, hB⟩
  have x20 : Bx w [(bk14, q0, q1, q2, q3), (bk7, p0, p1, p2, p3), (w.heap.size + 1 + 1, c0, c1, c2, c3), (w.heap.size + 1, b0, b1, b2, b3), (w.heap.size, a0, a1, a2, a3)] g19 := hHeld.past hB
  clear hB hHeld
  (try go_wp2_with fail)
  refine hK.out _ _ x20 (fun _ => ?_)
  clear hK K
  refine wpAnyH_take (i := 3) (v := .bool false) op3 (by kernel_rfl) (by kernel_rfl) (by kernel_rfl) (fun _ _ _ h => h) (Or.inl ⟨by rfl, fun W hS => ?_⟩) x20 ?_
  · go_simp
  simp only [Act.put, List.setIfInBounds_toArray, List.set_cons_zero, List.set_cons_succ]
  refine wpAnyH_take (i := 4) (v := .bool false) op4 (by kernel_rfl) (by kernel_rfl) (by kernel_rfl) (fun _ _ _ h => h) (Or.inl ⟨by rfl, fun W hS => ?_⟩) x20 ?_
  · go_simp
  simp only [Act.put, List.setIfInBounds_toArray, List.set_cons_zero, List.set_cons_succ]
  refine wpAnyH_take (i := 5) (v := .agg #[.int .u64 q0, .int .u64 q1, .int .u64 q2, .int .u64 q3]) op5 (by kernel_rfl) (by kernel_rfl) (by kernel_rfl) (fun _ _ _ h => h) (Or.inl ⟨by rfl, fun W hS => ?_⟩) x20 ?_
  · obtain ⟨c0, c1, c2, c3, _⟩ := hS.f0 (List.Mem.head _)
    go_simp
  simp only [Act.put, List.setIfInBounds_toArray, List.set_cons_zero, List.set_cons_succ]
  refine wpAnyH_take (i := 6) (v := .agg #[.int .u64 c0, .int .u64 c1, .int .u64 c2, .int .u64 c3]) op6 (by kernel_rfl) (by kernel_rfl) (by kernel_rfl) (fun _ _ _ h => h) (Or.inl ⟨by rfl, fun W hS => ?_⟩) x20 ?_
  · obtain ⟨c0, c1, c2, c3, _⟩ := hS.f0 (List.Mem.tail _ (List.Mem.tail _ (List.Mem.head _)))
    go_simp
  simp only [Act.put, List.setIfInBounds_toArray, List.set_cons_zero, List.set_cons_succ]
  refine wpAnyH_ready (rs := [7]) (by kernel_rfl) (by simp) ?_
  refine AllReadyH.cons op7 (fun K hK => ?_) AllReadyH.nil
  rw [if_pos (by rfl)]
  go_simp
  refine (HL2.out _).mono ?_
  rintro e g21 ⟨rfl, hB⟩
  have x22 : Bx w [(bk14, q0, q1, q2, q3), (bk7, p0, p1, p2, p3), (w.heap.size + 1 + 1, c0, c1, c2, c3), (w.heap.size + 1, b0, b1, b2, b3), (w.heap.size, a0, a1, a2, a3)] g21 := x20.past hB
  clear hB x20
  (try go_wp2_with fail)
  refine hK.out _ _ x22 (fun _ => ?_)
  clear hK K
  refine wpAnyH_take (i := 8) (v := .bool false) op8 (by kernel_rfl) (by kernel_rfl) (by kernel_rfl) (fun _ _ _ h => h) (Or.inl ⟨by rfl, fun W hS => ?_⟩) x22 ?_
  · go_simp
  simp only [Act.put, List.setIfInBounds_toArray, List.set_cons_zero, List.set_cons_succ]
  refine wpAnyH_take (i := 9) (v := .bool false) op9 (by kernel_rfl) (by kernel_rfl) (by kernel_rfl) (fun _ _ _ h => h) (Or.inl ⟨by rfl, fun W hS => ?_⟩) x22 ?_
  · go_simp
  simp only [Act.put, List.setIfInBounds_toArray, List.set_cons_zero, List.set_cons_succ]
  refine wpAnyH_take (i := 10) (v := .bool false) op10 (by kernel_rfl) (by kernel_rfl) (by kernel_rfl) (fun _ _ _ h => h) (Or.inl ⟨by rfl, fun W hS => ?_⟩) x22 ?_
  · go_simp
  simp only [Act.put, List.setIfInBounds_toArray, List.set_cons_zero, List.set_cons_succ]
  refine wpAnyH_take (i := 11) (v := .agg #[.int .u64 p0, .int .u64 p1, .int .u64 p2, .int .u64 p3]) op11 (by kernel_rfl) (by kernel_rfl) (by kernel_rfl) (fun _ _ _ h => h) (Or.inl ⟨by rfl, fun W hS => ?_⟩) x22 ?_
  · obtain ⟨c0, c1, c2, c3, _⟩ := hS.f0 (List.Mem.tail _ (List.Mem.head _))
    go_simp
  simp only [Act.put, List.setIfInBounds_toArray, List.set_cons_zero, List.set_cons_succ]
  refine wpAnyH_take (i := 12) (v := .agg #[.int .u64 b0, .int .u64 b1, .int .u64 b2, .int .u64 b3]) op12 (by kernel_rfl) (by kernel_rfl) (by kernel_rfl) (fun _ _ _ h => h) (Or.inl ⟨by rfl, fun W hS => ?_⟩) x22 ?_
  · obtain ⟨c0, c1, c2, c3, _⟩ := hS.f0 (List.Mem.tail _ (List.Mem.tail _ (List.Mem.tail _ (List.Mem.head _))))
    go_simp
  simp only [Act.put, List.setIfInBounds_toArray, List.set_cons_zero, List.set_cons_succ]
  refine wpAnyH_take (i := 13) (v := .agg #[.int .u64 a0, .int .u64 a1, .int .u64 a2, .int .u64 a3]) op13 (by kernel_rfl) (by kernel_rfl) (by kernel_rfl) (fun _ _ _ h => h) (Or.inl ⟨by rfl, fun W hS => ?_⟩) x22 ?_
  · obtain ⟨c0, c1, c2, c3, _⟩ := hS.f0 (List.Mem.tail _ (List.Mem.tail _ (List.Mem.tail _ (List.Mem.tail _ (List.Mem.head _)))))
    go_simp
  simp only [Act.put, List.setIfInBounds_toArray, List.set_cons_zero, List.set_cons_succ]
  refine wpAnyH_take (i := 14) (v := .agg #[.int .u64 c0, .int .u64 c1, .int .u64 c2, .int .u64 c3]) op14 (by kernel_rfl) (by kernel_rfl) (by kernel_rfl) (fun _ _ _ h => h) (Or.inl ⟨by rfl, fun W hS => ?_⟩) x22 ?_
  · obtain ⟨c0, c1, c2, c3, _⟩ := hS.f0 (List.Mem.tail _ (List.Mem.tail _ (List.Mem.head _)))
    go_simp
  simp only [Act.put, List.setIfInBounds_toArray, List.set_cons_zero, List.set_cons_succ]
  refine wpAnyH_ready (rs := [15]) (by kernel_rfl) (by simp) ?_
  refine AllReadyH.cons op15 (fun K hK => ?_) AllReadyH.nil
  rw [if_pos (by rfl)]
  go_simp
  refine (HAB.out _).mono ?_
  rintro e g23 ⟨rfl, hB⟩
  have x24 : Bx w [(bk14, q0, q1, q2, q3), (bk7, p0, p1, p2, p3), (w.heap.size + 1 + 1, c0, c1, c2, c3), (w.heap.size + 1, b0, b1, b2, b3), (w.heap.size, a0, a1, a2, a3)] g23 := x22.past hB
  clear hB x22
  (try go_wp2_with fail)
  refine hK.out _ _ x24 (fun _ => ?_)
  clear hK K
  refine wpAnyH_take (i := 16) (v := .bool false) op16 (by kernel_rfl) (by kernel_rfl) (by kernel_rfl) (fun _ _ _ h => h) (Or.inl ⟨by rfl, fun W hS => ?_⟩) x24 ?_
  · go_simp
  simp only [Act.put, List.setIfInBounds_toArray, List.set_cons_zero, List.set_cons_succ]
  refine wpAnyH_take (i := 17) (v := .bool false) op17 (by kernel_rfl) (by kernel_rfl) (by kernel_rfl) (fun _ _ _ h => h) (Or.inl ⟨by rfl, fun W hS => ?_⟩) x24 ?_
  · go_simp
  simp only [Act.put, List.setIfInBounds_toArray, List.set_cons_zero, List.set_cons_succ]
  refine wpAnyH_take (i := 18) (v := .bool false) op18 (by kernel_rfl) (by kernel_rfl) (by kernel_rfl) (fun _ _ _ h => h) (Or.inl ⟨by rfl, fun W hS => ?_⟩) x24 ?_
  · go_simp
  simp only [Act.put, List.setIfInBounds_toArray, List.set_cons_zero, List.set_cons_succ]
  refine wpAnyH_take (i := 19) (v := .agg #[.int .u64 q0, .int .u64 q1, .int .u64 q2, .int .u64 q3]) op19 (by kernel_rfl) (by kernel_rfl) (by kernel_rfl) (fun _ _ _ h => h) (Or.inl ⟨by rfl, fun W hS => ?_⟩) x24 ?_
  · obtain ⟨c0, c1, c2, c3, _⟩ := hS.f0 (List.Mem.head _)
    go_simp
  simp only [Act.put, List.setIfInBounds_toArray, List.set_cons_zero, List.set_cons_succ]
  refine wpAnyH_take (i := 20) (v := .agg #[.int .u64 b0, .int .u64 b1, .int .u64 b2, .int .u64 b3]) op20 (by kernel_rfl) (by kernel_rfl) (by kernel_rfl) (fun _ _ _ h => h) (Or.inl ⟨by rfl, fun W hS => ?_⟩) x24 ?_
  · obtain ⟨c0, c1, c2, c3, _⟩ := hS.f0 (List.Mem.tail _ (List.Mem.tail _ (List.Mem.tail _ (List.Mem.head _))))
    go_simp
  simp only [Act.put, List.setIfInBounds_toArray, List.set_cons_zero, List.set_cons_succ]
  refine wpAnyH_take (i := 21) (v := .agg #[.int .u64 a0, .int .u64 a1, .int .u64 a2, .int .u64 a3]) op21 (by kernel_rfl) (by kernel_rfl) (by kernel_rfl) (fun _ _ _ h => h) (Or.inl ⟨by rfl, fun W hS => ?_⟩) x24 ?_
  · obtain ⟨c0, c1, c2, c3, _⟩ := hS.f0 (List.Mem.tail _ (List.Mem.tail _ (List.Mem.tail _ (List.Mem.tail _ (List.Mem.head _)))))
    go_simp
  simp only [Act.put, List.setIfInBounds_toArray, List.set_cons_zero, List.set_cons_succ]
  refine wpAnyH_take (i := 22) (v := .agg #[.int .u64 c0, .int .u64 c1, .int .u64 c2, .int .u64 c3]) op22 (by kernel_rfl) (by kernel_rfl) (by kernel_rfl) (fun _ _ _ h => h) (Or.inl ⟨by rfl, fun W hS => ?_⟩) x24 ?_
  · obtain ⟨c0, c1, c2, c3, _⟩ := hS.f0 (List.Mem.tail _ (List.Mem.tail _ (List.Mem.head _)))
    go_simp
  simp only [Act.put, List.setIfInBounds_toArray, List.set_cons_zero, List.set_cons_succ]
  refine wpAnyH_ready (rs := [23]) (by kernel_rfl) (by simp) ?_
  refine AllReadyH.cons op23 (fun K hK => ?_) AllReadyH.nil
  rw [if_pos (by rfl)]
  go_simp
  refine (HMB.out _).mono ?_
  rintro e g25 ⟨rfl, hB⟩
  have x26 : Bx w [(bk14, q0, q1, q2, q3), (bk7, p0, p1, p2, p3), (w.heap.size + 1 + 1, c0, c1, c2, c3), (w.heap.size + 1, b0, b1, b2, b3), (w.heap.size, a0, a1, a2, a3)] g25 := x24.past hB
  clear hB x24
  (try go_wp2_with fail)
  refine hK.out _ _ x26 (fun _ => ?_)
  clear hK K
  refine wpAnyH_take (i := 24) (v := .bool false) op24 (by kernel_rfl) (by kernel_rfl) (by kernel_rfl) (fun _ _ _ h => h) (Or.inl ⟨by rfl, fun W hS => ?_⟩) x26 ?_
  · go_simp
  simp only [Act.put, List.setIfInBounds_toArray, List.set_cons_zero, List.set_cons_succ]
  refine wpAnyH_take (i := 25) (v := .bool false) op25 (by kernel_rfl) (by kernel_rfl) (by kernel_rfl) (fun _ _ _ h => h) (Or.inl ⟨by rfl, fun W hS => ?_⟩) x26 ?_
  · go_simp
  simp only [Act.put, List.setIfInBounds_toArray, List.set_cons_zero, List.set_cons_succ]
  refine wpAnyH_done (by kernel_rfl) ?_ _
  have X27 : Hid (Bx w [(bk14, q0, q1, q2, q3), (bk7, p0, p1, p2, p3), (w.heap.size + 1 + 1, c0, c1, c2, c3), (w.heap.size + 1, b0, b1, b2, b3), (w.heap.size, a0, a1, a2, a3)] g25) := x26
  clear x26
  go_upto_region 7 with fail
  refine wp_region_held_drew (S := fun w' => Bx w [(bk14, q0, q1, q2, q3), (bk7, p0, p1, p2, p3), (w.heap.size + 1 + 1, c0, c1, c2, c3), (w.heap.size + 1, b0, b1, b2, b3), (w.heap.size, a0, a1, a2, a3)] w') (by kernel_rfl) X27.out.drew (fun hHeld => ?_)
  generalize g25.drew = g28 at hHeld ⊢
  clear X27
  refine wpAnyH_take (i := 0) (v := .agg #[.int .u64 a0, .int .u64 a1, .int .u64 a2, .int .u64 a3]) op0 (by kernel_rfl) (by kernel_rfl) (by kernel_rfl) (fun _ _ _ h => h) (Or.inl ⟨by rfl, fun W hS => ?_⟩) hHeld ?_
  · obtain ⟨c0, c1, c2, c3, _⟩ := hS.f0 (List.Mem.tail _ (List.Mem.tail _ (List.Mem.tail _ (List.Mem.tail _ (List.Mem.head _)))))
    go_simp
  simp only [Act.put, List.setIfInBounds_toArray, List.set_cons_zero, List.set_cons_succ]
  refine wpAnyH_take (i := 1) (v := .agg #[.int .u64 0, .int .u64 0, .int .u64 0, .int .u64 0]) op1 (by kernel_rfl) (by kernel_rfl) (by kernel_rfl) (fun _ _ _ h => h) (Or.inl ⟨by rfl, fun W hS => ?_⟩) hHeld ?_
  · go_simp
  simp only [Act.put, List.setIfInBounds_toArray, List.set_cons_zero, List.set_cons_succ]
  refine wpAnyH_take (i := 2) (v := .agg #[.int .u64 c0, .int .u64 c1, .int .u64 c2, .int .u64 c3]) op2 (by kernel_rfl) (by kernel_rfl) (by kernel_rfl) (fun _ _ _ h => h) (Or.inl ⟨by rfl, fun W hS => ?_⟩) hHeld ?_
  · obtain ⟨c0, c1, c2, c3, _⟩ := hS.f0 (List.Mem.tail _ (List.Mem.tail _ (List.Mem.head _)))
    go_simp
  simp only [Act.put, List.setIfInBounds_toArray, List.set_cons_zero, List.set_cons_succ]
  refine wpAnyH_take (i := 4) (v := .agg #[.int .u64 a0, .int .u64 a1, .int .u64 a2, .int .u64 a3]) op4 (by kernel_rfl) (by kernel_rfl) (by kernel_rfl) (fun _ _ _ h => h) (Or.inl ⟨by rfl, fun W hS => ?_⟩) hHeld ?_
  · obtain ⟨c0, c1, c2, c3, _⟩ := hS.f0 (List.Mem.tail _ (List.Mem.tail _ (List.Mem.tail _ (List.Mem.tail _ (List.Mem.head _)))))
    go_simp
  simp only [Act.put, List.setIfInBounds_toArray, List.set_cons_zero, List.set_cons_succ]
  refine wpAnyH_take (i := 5) (v := .agg #[.int .u64 c0, .int .u64 c1, .int .u64 c2, .int .u64 c3]) op5 (by kernel_rfl) (by kernel_rfl) (by kernel_rfl) (fun _ _ _ h => h) (Or.inl ⟨by rfl, fun W hS => ?_⟩) hHeld ?_
  · obtain ⟨c0, c1, c2, c3, _⟩ := hS.f0 (List.Mem.tail _ (List.Mem.tail _ (List.Mem.head _)))
    go_simp
  simp only [Act.put, List.setIfInBounds_toArray, List.set_cons_zero, List.set_cons_succ]
  refine wpAnyH_ready (rs := [3]) (by kernel_rfl) (by simp) ?_
  refine AllReadyH.cons op3 (fun K hK => ?_) AllReadyH.nil
  rw [if_pos (by rfl)]
  go_simp
  refine (HA0.out _).mono ?_
  rintro e g29 ⟨rfl, hB⟩
  have x30 : Bx w [(bk14, q0, q1, q2, q3), (bk7, p0, p1, p2, p3), (w.heap.size + 1 + 1, c0, c1, c2, c3), (w.heap.size + 1, b0, b1, b2, b3), (w.heap.size, a0, a1, a2, a3)] g29 := hHeld.past hB
  clear hB hHeld
  (try go_wp2_with fail)
  refine hK.out _ _ x30 (fun _ => ?_)
  clear hK K
  refine wpAnyH_ready (rs := [6]) (by kernel_rfl) (by simp) ?_
  refine AllReadyH.cons op6 (fun K hK => ?_) AllReadyH.nil
  rw [if_pos (by rfl)]
  go_simp
  refine (HMO.out _).mono ?_
  rintro e g31 ⟨rfl, hB⟩
  have x32 : Bx w [(bk14, q0, q1, q2, q3), (bk7, p0, p1, p2, p3), (w.heap.size + 1 + 1, c0, c1, c2, c3), (w.heap.size + 1, b0, b1, b2, b3), (w.heap.size, a0, a1, a2, a3)] g31 := x30.past hB
  clear hB x30
  (try go_wp2_with fail)
  refine hK.out _ _ x32 (fun _ => ?_)
  clear hK K
  refine wpAnyH_take (i := 7) (v := .bool false) op7 (by kernel_rfl) (by kernel_rfl) (by kernel_rfl) (fun _ _ _ h => h) (Or.inl ⟨by rfl, fun W hS => ?_⟩) x32 ?_
  · go_simp
  simp only [Act.put, List.setIfInBounds_toArray, List.set_cons_zero, List.set_cons_succ]
  refine wpAnyH_take (i := 8) (v := .bool false) op8 (by kernel_rfl) (by kernel_rfl) (by kernel_rfl) (fun _ _ _ h => h) (Or.inl ⟨by rfl, fun W hS => ?_⟩) x32 ?_
  · go_simp
  simp only [Act.put, List.setIfInBounds_toArray, List.set_cons_zero, List.set_cons_succ]
  refine wpAnyH_take (i := 9) (v := .agg #[.int .u64 a0, .int .u64 a1, .int .u64 a2, .int .u64 a3]) op9 (by kernel_rfl) (by kernel_rfl) (by kernel_rfl) (fun _ _ _ h => h) (Or.inl ⟨by rfl, fun W hS => ?_⟩) x32 ?_
  · obtain ⟨c0, c1, c2, c3, _⟩ := hS.f0 (List.Mem.tail _ (List.Mem.tail _ (List.Mem.tail _ (List.Mem.tail _ (List.Mem.head _)))))
    go_simp
  simp only [Act.put, List.setIfInBounds_toArray, List.set_cons_zero, List.set_cons_succ]
  refine wpAnyH_take (i := 10) (v := .agg #[.int .u64 0, .int .u64 0, .int .u64 0, .int .u64 0]) op10 (by kernel_rfl) (by kernel_rfl) (by kernel_rfl) (fun _ _ _ h => h) (Or.inl ⟨by rfl, fun W hS => ?_⟩) x32 ?_
  · go_simp
  simp only [Act.put, List.setIfInBounds_toArray, List.set_cons_zero, List.set_cons_succ]
  refine wpAnyH_take (i := 11) (v := .agg #[.int .u64 c0, .int .u64 c1, .int .u64 c2, .int .u64 c3]) op11 (by kernel_rfl) (by kernel_rfl) (by kernel_rfl) (fun _ _ _ h => h) (Or.inl ⟨by rfl, fun W hS => ?_⟩) x32 ?_
  · obtain ⟨c0, c1, c2, c3, _⟩ := hS.f0 (List.Mem.tail _ (List.Mem.tail _ (List.Mem.head _)))
    go_simp
  simp only [Act.put, List.setIfInBounds_toArray, List.set_cons_zero, List.set_cons_succ]
  refine wpAnyH_take (i := 13) (v := .agg #[.int .u64 0, .int .u64 0, .int .u64 0, .int .u64 0]) op13 (by kernel_rfl) (by kernel_rfl) (by kernel_rfl) (fun _ _ _ h => h) (Or.inl ⟨by rfl, fun W hS => ?_⟩) x32 ?_
  · go_simp
  simp only [Act.put, List.setIfInBounds_toArray, List.set_cons_zero, List.set_cons_succ]
  refine wpAnyH_ready (rs := [12]) (by kernel_rfl) (by simp) ?_
  refine AllReadyH.cons op12 (fun K hK => ?_) AllReadyH.nil
  rw [if_pos (by rfl)]
  go_simp
  refine (HM0.out _).mono ?_
  rintro e g33 ⟨rfl, hB⟩
  have x34 : Bx w [(bk14, q0, q1, q2, q3), (bk7, p0, p1, p2, p3), (w.heap.size + 1 + 1, c0, c1, c2, c3), (w.heap.size + 1, b0, b1, b2, b3), (w.heap.size, a0, a1, a2, a3)] g33 := x32.past hB
  clear hB x32
  (try go_wp2_with fail)
  refine hK.out _ _ x34 (fun _ => ?_)
  clear hK K
  refine wpAnyH_take (i := 14) (v := .bool false) op14 (by kernel_rfl) (by kernel_rfl) (by kernel_rfl) (fun _ _ _ h => h) (Or.inl ⟨by rfl, fun W hS => ?_⟩) x34 ?_
  · go_simp
  simp only [Act.put, List.setIfInBounds_toArray, List.set_cons_zero, List.set_cons_succ]
  refine wpAnyH_take (i := 15) (v := .bool false) op15 (by kernel_rfl) (by kernel_rfl) (by kernel_rfl) (fun _ _ _ h => h) (Or.inl ⟨by rfl, fun W hS => ?_⟩) x34 ?_
  · go_simp
  simp only [Act.put, List.setIfInBounds_toArray, List.set_cons_zero, List.set_cons_succ]
  refine wpAnyH_take (i := 16) (v := .bool false) op16 (by kernel_rfl) (by kernel_rfl) (by kernel_rfl) (fun _ _ _ h => h) (Or.inl ⟨by rfl, fun W hS => ?_⟩) x34 ?_
  · go_simp
  simp only [Act.put, List.setIfInBounds_toArray, List.set_cons_zero, List.set_cons_succ]
  refine wpAnyH_take (i := 17) (v := .agg #[.int .u64 p0, .int .u64 p1, .int .u64 p2, .int .u64 p3]) op17 (by kernel_rfl) (by kernel_rfl) (by kernel_rfl) (fun _ _ _ h => h) (Or.inl ⟨by rfl, fun W hS => ?_⟩) x34 ?_
  · obtain ⟨c0, c1, c2, c3, _⟩ := hS.f0 (List.Mem.tail _ (List.Mem.head _))
    go_simp
  simp only [Act.put, List.setIfInBounds_toArray, List.set_cons_zero, List.set_cons_succ]
  refine wpAnyH_take (i := 18) (v := .agg #[.int .u64 a0, .int .u64 a1, .int .u64 a2, .int .u64 a3]) op18 (by kernel_rfl) (by kernel_rfl) (by kernel_rfl) (fun _ _ _ h => h) (Or.inl ⟨by rfl, fun W hS => ?_⟩) x34 ?_
  · obtain ⟨c0, c1, c2, c3, _⟩ := hS.f0 (List.Mem.tail _ (List.Mem.tail _ (List.Mem.tail _ (List.Mem.tail _ (List.Mem.head _)))))
    go_simp
  simp only [Act.put, List.setIfInBounds_toArray, List.set_cons_zero, List.set_cons_succ]
  refine wpAnyH_take (i := 19) (v := .agg #[.int .u64 c0, .int .u64 c1, .int .u64 c2, .int .u64 c3]) op19 (by kernel_rfl) (by kernel_rfl) (by kernel_rfl) (fun _ _ _ h => h) (Or.inl ⟨by rfl, fun W hS => ?_⟩) x34 ?_
  · obtain ⟨c0, c1, c2, c3, _⟩ := hS.f0 (List.Mem.tail _ (List.Mem.tail _ (List.Mem.head _)))
    go_simp
  simp only [Act.put, List.setIfInBounds_toArray, List.set_cons_zero, List.set_cons_succ]
  refine wpAnyH_take (i := 21) (v := .agg #[.int .u64 b0, .int .u64 b1, .int .u64 b2, .int .u64 b3]) op21 (by kernel_rfl) (by kernel_rfl) (by kernel_rfl) (fun _ _ _ h => h) (Or.inl ⟨by rfl, fun W hS => ?_⟩) x34 ?_
  · obtain ⟨c0, c1, c2, c3, _⟩ := hS.f0 (List.Mem.tail _ (List.Mem.tail _ (List.Mem.tail _ (List.Mem.head _))))
    go_simp
  simp only [Act.put, List.setIfInBounds_toArray, List.set_cons_zero, List.set_cons_succ]
  refine wpAnyH_take (i := 22) (v := .agg #[.int .u64 c0, .int .u64 c1, .int .u64 c2, .int .u64 c3]) op22 (by kernel_rfl) (by kernel_rfl) (by kernel_rfl) (fun _ _ _ h => h) (Or.inl ⟨by rfl, fun W hS => ?_⟩) x34 ?_
  · obtain ⟨c0, c1, c2, c3, _⟩ := hS.f0 (List.Mem.tail _ (List.Mem.tail _ (List.Mem.head _)))
    go_simp
  simp only [Act.put, List.setIfInBounds_toArray, List.set_cons_zero, List.set_cons_succ]
  refine wpAnyH_take (i := 24) (v := .agg #[.int .u64 c0, .int .u64 c1, .int .u64 c2, .int .u64 c3]) op24 (by kernel_rfl) (by kernel_rfl) (by kernel_rfl) (fun _ _ _ h => h) (Or.inl ⟨by rfl, fun W hS => ?_⟩) x34 ?_
  · obtain ⟨c0, c1, c2, c3, _⟩ := hS.f0 (List.Mem.tail _ (List.Mem.tail _ (List.Mem.head _)))
    go_simp
  simp only [Act.put, List.setIfInBounds_toArray, List.set_cons_zero, List.set_cons_succ]
  refine wpAnyH_ready (rs := [20]) (by kernel_rfl) (by simp) ?_
  refine AllReadyH.cons op20 (fun K hK => ?_) AllReadyH.nil
  rw [if_pos (by rfl)]
  go_simp
  refine (HMO.out _).mono ?_
  rintro e g35 ⟨rfl, hB⟩
  have x36 : Bx w [(bk14, q0, q1, q2, q3), (bk7, p0, p1, p2, p3), (w.heap.size + 1 + 1, c0, c1, c2, c3), (w.heap.size + 1, b0, b1, b2, b3), (w.heap.size, a0, a1, a2, a3)] g35 := x34.past hB
  clear hB x34
  (try go_wp2_with fail)
  refine hK.out _ _ x36 (fun _ => ?_)
  clear hK K
  refine wpAnyH_ready (rs := [23]) (by kernel_rfl) (by simp) ?_
  refine AllReadyH.cons op23 (fun K hK => ?_) AllReadyH.nil
  rw [if_pos (by rfl)]
  go_simp
  refine (HMS.out _).mono ?_
  rintro e g37 ⟨rfl, hB⟩
  have x38 : Bx w [(bk14, q0, q1, q2, q3), (bk7, p0, p1, p2, p3), (w.heap.size + 1 + 1, c0, c1, c2, c3), (w.heap.size + 1, b0, b1, b2, b3), (w.heap.size, a0, a1, a2, a3)] g37 := x36.past hB
  clear hB x36
  (try go_wp2_with fail)
  refine hK.out _ _ x38 (fun _ => ?_)
  clear hK K
  refine wpAnyH_ready (rs := [25]) (by kernel_rfl) (by simp) ?_
  refine AllReadyH.cons op25 (fun K hK => ?_) AllReadyH.nil
  rw [if_pos (by rfl)]
  go_simp
  refine (HAR.out _).mono ?_
  rintro e g39 ⟨rfl, hB⟩
  have x40 : Bx w [(bk14, q0, q1, q2, q3), (bk7, p0, p1, p2, p3), (w.heap.size + 1 + 1, c0, c1, c2, c3), (w.heap.size + 1, b0, b1, b2, b3), (w.heap.size, a0, a1, a2, a3)] g39 := x38.past hB
  clear hB x38
  (try go_wp2_with fail)
  refine hK.out _ _ x40 (fun _ => ?_)
  clear hK K
  refine wpAnyH_take (i := 26) (v := .bool false) op26 (by kernel_rfl) (by kernel_rfl) (by kernel_rfl) (fun _ _ _ h => h) (Or.inl ⟨by rfl, fun W hS => ?_⟩) x40 ?_
  · go_simp
  simp only [Act.put, List.setIfInBounds_toArray, List.set_cons_zero, List.set_cons_succ]
  refine wpAnyH_take (i := 27) (v := .bool false) op27 (by kernel_rfl) (by kernel_rfl) (by kernel_rfl) (fun _ _ _ h => h) (Or.inl ⟨by rfl, fun W hS => ?_⟩) x40 ?_
  · go_simp
  simp only [Act.put, List.setIfInBounds_toArray, List.set_cons_zero, List.set_cons_succ]
  refine wpAnyH_done (by kernel_rfl) ?_ _
  have X41 : Hid (Bx w [(bk14, q0, q1, q2, q3), (bk7, p0, p1, p2, p3), (w.heap.size + 1 + 1, c0, c1, c2, c3), (w.heap.size + 1, b0, b1, b2, b3), (w.heap.size, a0, a1, a2, a3)] g39) := x40
  clear x40
  go_upto_region 9 with fail
  refine wp_region_held_drew (S := fun w' => Bx w [(bk14, q0, q1, q2, q3), (bk7, p0, p1, p2, p3), (w.heap.size + 1 + 1, c0, c1, c2, c3), (w.heap.size + 1, b0, b1, b2, b3), (w.heap.size, a0, a1, a2, a3)] w') (by kernel_rfl) X41.out.drew (fun hHeld => ?_)
  generalize g39.drew = g42 at hHeld ⊢
  clear X41
  refine wpAnyH_take (i := 0) (v := .agg #[.int .u64 b0, .int .u64 b1, .int .u64 b2, .int .u64 b3]) op0 (by kernel_rfl) (by kernel_rfl) (by kernel_rfl) (fun _ _ _ h => h) (Or.inl ⟨by rfl, fun W hS => ?_⟩) hHeld ?_
  · obtain ⟨c0, c1, c2, c3, _⟩ := hS.f0 (List.Mem.tail _ (List.Mem.tail _ (List.Mem.tail _ (List.Mem.head _))))
    go_simp
  simp only [Act.put, List.setIfInBounds_toArray, List.set_cons_zero, List.set_cons_succ]
  refine wpAnyH_ready (rs := [1]) (by kernel_rfl) (by simp) ?_
  refine AllReadyH.cons op1 (fun K hK => ?_) AllReadyH.nil
  rw [if_pos (by rfl)]
  go_simp
  refine (most_any _).mono ?_
  rintro e g43 ⟨rfl, hB⟩
  have x44 : Bx w [(bk14, q0, q1, q2, q3), (bk7, p0, p1, p2, p3), (w.heap.size + 1 + 1, c0, c1, c2, c3), (w.heap.size + 1, b0, b1, b2, b3), (w.heap.size, a0, a1, a2, a3)] g43 := hHeld.past hB
  clear hB hHeld
  (try go_wp2_with fail)
  refine hK.out _ _ x44 (fun _ => ?_)
  clear hK K
  refine wpAnyH_take (i := 2) (v := .bool false) op2 (by kernel_rfl) (by kernel_rfl) (by kernel_rfl) (fun _ _ _ h => h) (Or.inl ⟨by rfl, fun W hS => ?_⟩) x44 ?_
  · go_simp
  simp only [Act.put, List.setIfInBounds_toArray, List.set_cons_zero, List.set_cons_succ]
  refine wpAnyH_done (by kernel_rfl) ?_ _
  have X45 : Hid (Bx w [(bk14, q0, q1, q2, q3), (bk7, p0, p1, p2, p3), (w.heap.size + 1 + 1, c0, c1, c2, c3), (w.heap.size + 1, b0, b1, b2, b3), (w.heap.size, a0, a1, a2, a3)] g43) := x44
  clear x44
  go_upto_region 11 with fail
  go_cut [9] (fun sx wx => ∃ bk46 : Nat, sx = .pointer (some ⟨bk46, 0, none⟩) ∧ bk14 < bk46 ∧ bk7 < bk46 ∧ w.heap.size + 1 + 1 < bk46 ∧ w.heap.size + 1 < bk46 ∧ w.heap.size < bk46 ∧ Bx w [(bk46, n0, n1, n2, n3), (bk14, q0, q1, q2, q3), (bk7, p0, p1, p2, p3), (w.heap.size + 1 + 1, c0, c1, c2, c3), (w.heap.size + 1, b0, b1, b2, b3), (w.heap.size, a0, a1, a2, a3)] wx)
  case first =>
    refine wp_region_held_drew (S := fun w' => Bx w [(bk14, q0, q1, q2, q3), (bk7, p0, p1, p2, p3), (w.heap.size + 1 + 1, c0, c1, c2, c3), (w.heap.size + 1, b0, b1, b2, b3), (w.heap.size, a0, a1, a2, a3)] w') (by kernel_rfl) X45.out.drew (fun hHeld => ?_)
    generalize g43.drew = g47 at hHeld ⊢
    refine wpAnyH_take (i := 0) (v := .agg #[.int .u64 b0, .int .u64 b1, .int .u64 b2, .int .u64 b3]) op0 (by kernel_rfl) (by kernel_rfl) (by kernel_rfl) (fun _ _ _ h => h) (Or.inl ⟨by rfl, fun W hS => ?_⟩) hHeld ?_
    · obtain ⟨c0, c1, c2, c3, _⟩ := hS.f0 (List.Mem.tail _ (List.Mem.tail _ (List.Mem.tail _ (List.Mem.head _))))
      go_simp
    simp only [Act.put, List.setIfInBounds_toArray, List.set_cons_zero, List.set_cons_succ]
    refine wpAnyH_ready (rs := [1, 3]) (by kernel_rfl) (by simp) ?_
    refine AllReadyH.cons op1 (fun K hK => ?_) (AllReadyH.cons op3 (fun K hK => ?_) AllReadyH.nil)
    · rw [if_pos (by rfl)]
      go_simp
      refine (one_any _).mono ?_
      rintro e g49 ⟨rfl, hB⟩
      have x50 : Bx w [(bk14, q0, q1, q2, q3), (bk7, p0, p1, p2, p3), (w.heap.size + 1 + 1, c0, c1, c2, c3), (w.heap.size + 1, b0, b1, b2, b3), (w.heap.size, a0, a1, a2, a3)] g49 := hHeld.past hB
      clear hB hHeld
      (try go_wp2_with fail)
      refine hK.out _ _ x50 (fun _ => ?_)
      clear hK K
      refine wpAnyH_ready (rs := [2, 3]) (by kernel_rfl) (by simp) ?_
      refine AllReadyH.cons op2 (fun K hK => ?_) (AllReadyH.cons op3 (fun K hK => ?_) AllReadyH.nil)
      · rw [if_pos (by rfl)]
        go_simp
        refine (HNX.out _).mono ?_
        rintro e g51 ⟨rfl, hB⟩
        have x52 : Bx w [(bk14, q0, q1, q2, q3), (bk7, p0, p1, p2, p3), (w.heap.size + 1 + 1, c0, c1, c2, c3), (w.heap.size + 1, b0, b1, b2, b3), (w.heap.size, a0, a1, a2, a3)] g51 := x50.past hB
        clear hB x50
        (try go_wp2_with fail)
        refine hK.out _ _ x52 (fun _ => ?_)
        clear hK K
        refine wpAnyH_ready (rs := [3]) (by kernel_rfl) (by simp) ?_
        refine AllReadyH.cons op3 (fun K hK => ?_) AllReadyH.nil
        rw [if_pos (by rfl)]
        go_simp
        have x54 : Bx w ((g51.heap.size, 0, 0, 0, 0) :: [(bk14, q0, q1, q2, q3), (bk7, p0, p1, p2, p3), (w.heap.size + 1 + 1, c0, c1, c2, c3), (w.heap.size + 1, b0, b1, b2, b3), (w.heap.size, a0, a1, a2, a3)]) (g51.alloc (.cells #[.int .u64 0, .int .u64 0, .int .u64 0, .int .u64 0] 24)) := x52.alloc 0 0 0 0
        have lbb48_0 : bk14 < g51.heap.size := x52.lt _ (List.Mem.head _)
        have lbb48_1 : bk7 < g51.heap.size := x52.lt _ (List.Mem.tail _ (List.Mem.head _))
        have lbb48_2 : w.heap.size + 1 + 1 < g51.heap.size := x52.lt _ (List.Mem.tail _ (List.Mem.tail _ (List.Mem.head _)))
        have lbb48_3 : w.heap.size + 1 < g51.heap.size := x52.lt _ (List.Mem.tail _ (List.Mem.tail _ (List.Mem.tail _ (List.Mem.head _))))
        have lbb48_4 : w.heap.size < g51.heap.size := x52.lt _ (List.Mem.tail _ (List.Mem.tail _ (List.Mem.tail _ (List.Mem.tail _ (List.Mem.head _)))))
        refine hK.out _ _ (Bx.sub x54 (fun p hp => List.Mem.tail _ hp)) (fun _ => ?_)
        clear hK K x52
        generalize g51.alloc (.cells #[.int .u64 0, .int .u64 0, .int .u64 0, .int .u64 0] 24) = g53 at x54 ⊢
        generalize g51.heap.size = bb48 at x54 lbb48_0 lbb48_1 lbb48_2 lbb48_3 lbb48_4 ⊢
        refine wpAnyH_ready (rs := [4]) (by kernel_rfl) (by simp) ?_
        refine AllReadyH.cons op4 (fun K hK => ?_) AllReadyH.nil
        rw [if_pos (by rfl)]
        obtain ⟨cc0, cc1, cc2, cc3, ff0, ff1, ff2, ff3⟩ := x54.f0 (List.Mem.head _)
        go_simp
        have x56 : Bx w ((bb48, n0, n1, n2, n3) :: [(bk14, q0, q1, q2, q3), (bk7, p0, p1, p2, p3), (w.heap.size + 1 + 1, c0, c1, c2, c3), (w.heap.size + 1, b0, b1, b2, b3), (w.heap.size, a0, a1, a2, a3)]) ((((g53.setCell ⟨bb48, 0, none⟩ (.int .u64 n0)).setCell ⟨bb48, 1, none⟩ (.int .u64 n1)).setCell ⟨bb48, 2, none⟩ (.int .u64 n2)).setCell ⟨bb48, 3, none⟩ (.int .u64 n3)) := Bx.put x54 (by intro p hp; simp only [List.mem_cons, List.not_mem_nil, or_false] at hp; rcases hp with rfl | rfl | rfl | rfl | rfl <;> simp <;> omega) n0 n1 n2 n3
        refine hK.out _ _ (Bx.sub x56 (fun p hp => List.Mem.tail _ hp)) (fun _ => ?_)
        clear hK K cc0 cc1 cc2 cc3 ff0 ff1 ff2 ff3 x54
        generalize ((((g53.setCell ⟨bb48, 0, none⟩ (.int .u64 n0)).setCell ⟨bb48, 1, none⟩ (.int .u64 n1)).setCell ⟨bb48, 2, none⟩ (.int .u64 n2)).setCell ⟨bb48, 3, none⟩ (.int .u64 n3)) = g55 at x56 ⊢
        (try simp only [Act.put])
        refine wpAnyH_done (by kernel_rfl) ?_ _
        go_wp2
        go_meet
        case rel => exact ⟨bb48, rfl, lbb48_0, lbb48_1, lbb48_2, lbb48_3, lbb48_4, x56⟩
      · rw [if_pos (by rfl)]
        go_simp
        have x58 : Bx w ((g49.heap.size, 0, 0, 0, 0) :: [(bk14, q0, q1, q2, q3), (bk7, p0, p1, p2, p3), (w.heap.size + 1 + 1, c0, c1, c2, c3), (w.heap.size + 1, b0, b1, b2, b3), (w.heap.size, a0, a1, a2, a3)]) (g49.alloc (.cells #[.int .u64 0, .int .u64 0, .int .u64 0, .int .u64 0] 24)) := x50.alloc 0 0 0 0
        have lbb48_0 : bk14 < g49.heap.size := x50.lt _ (List.Mem.head _)
        have lbb48_1 : bk7 < g49.heap.size := x50.lt _ (List.Mem.tail _ (List.Mem.head _))
        have lbb48_2 : w.heap.size + 1 + 1 < g49.heap.size := x50.lt _ (List.Mem.tail _ (List.Mem.tail _ (List.Mem.head _)))
        have lbb48_3 : w.heap.size + 1 < g49.heap.size := x50.lt _ (List.Mem.tail _ (List.Mem.tail _ (List.Mem.tail _ (List.Mem.head _))))
        have lbb48_4 : w.heap.size < g49.heap.size := x50.lt _ (List.Mem.tail _ (List.Mem.tail _ (List.Mem.tail _ (List.Mem.tail _ (List.Mem.head _)))))
        refine hK.out _ _ (Bx.sub x58 (fun p hp => List.Mem.tail _ hp)) (fun _ => ?_)
        clear hK K x50
        generalize g49.alloc (.cells #[.int .u64 0, .int .u64 0, .int .u64 0, .int .u64 0] 24) = g57 at x58 ⊢
        generalize g49.heap.size = bb48 at x58 lbb48_0 lbb48_1 lbb48_2 lbb48_3 lbb48_4 ⊢
        refine wpAnyH_ready (rs := [2]) (by kernel_rfl) (by simp) ?_
        refine AllReadyH.cons op2 (fun K hK => ?_) AllReadyH.nil
        rw [if_pos (by rfl)]
        go_simp
        refine (HNX.out _).mono ?_
        rintro e g59 ⟨rfl, hB⟩
        have x60 : Bx w [(bb48, 0, 0, 0, 0), (bk14, q0, q1, q2, q3), (bk7, p0, p1, p2, p3), (w.heap.size + 1 + 1, c0, c1, c2, c3), (w.heap.size + 1, b0, b1, b2, b3), (w.heap.size, a0, a1, a2, a3)] g59 := x58.past hB
        clear hB x58
        (try go_wp2_with fail)
        refine hK.out _ _ (Bx.sub x60 (fun p hp => List.Mem.tail _ hp)) (fun _ => ?_)
        clear hK K
        refine wpAnyH_ready (rs := [4]) (by kernel_rfl) (by simp) ?_
        refine AllReadyH.cons op4 (fun K hK => ?_) AllReadyH.nil
        rw [if_pos (by rfl)]
        obtain ⟨cc0, cc1, cc2, cc3, ff0, ff1, ff2, ff3⟩ := x60.f0 (List.Mem.head _)
        go_simp
        have x62 : Bx w ((bb48, n0, n1, n2, n3) :: [(bk14, q0, q1, q2, q3), (bk7, p0, p1, p2, p3), (w.heap.size + 1 + 1, c0, c1, c2, c3), (w.heap.size + 1, b0, b1, b2, b3), (w.heap.size, a0, a1, a2, a3)]) ((((g59.setCell ⟨bb48, 0, none⟩ (.int .u64 n0)).setCell ⟨bb48, 1, none⟩ (.int .u64 n1)).setCell ⟨bb48, 2, none⟩ (.int .u64 n2)).setCell ⟨bb48, 3, none⟩ (.int .u64 n3)) := Bx.put x60 (by intro p hp; simp only [List.mem_cons, List.not_mem_nil, or_false] at hp; rcases hp with rfl | rfl | rfl | rfl | rfl <;> simp <;> omega) n0 n1 n2 n3
        refine hK.out _ _ (Bx.sub x62 (fun p hp => List.Mem.tail _ hp)) (fun _ => ?_)
        clear hK K cc0 cc1 cc2 cc3 ff0 ff1 ff2 ff3 x60
        generalize ((((g59.setCell ⟨bb48, 0, none⟩ (.int .u64 n0)).setCell ⟨bb48, 1, none⟩ (.int .u64 n1)).setCell ⟨bb48, 2, none⟩ (.int .u64 n2)).setCell ⟨bb48, 3, none⟩ (.int .u64 n3)) = g61 at x62 ⊢
        (try simp only [Act.put])
        refine wpAnyH_done (by kernel_rfl) ?_ _
        go_wp2
        go_meet
        case rel => exact ⟨bb48, rfl, lbb48_0, lbb48_1, lbb48_2, lbb48_3, lbb48_4, x62⟩
    · rw [if_pos (by rfl)]
      go_simp
      have x64 : Bx w ((g47.heap.size, 0, 0, 0, 0) :: [(bk14, q0, q1, q2, q3), (bk7, p0, p1, p2, p3), (w.heap.size + 1 + 1, c0, c1, c2, c3), (w.heap.size + 1, b0, b1, b2, b3), (w.heap.size, a0, a1, a2, a3)]) (g47.alloc (.cells #[.int .u64 0, .int .u64 0, .int .u64 0, .int .u64 0] 24)) := hHeld.alloc 0 0 0 0
      have lbb48_0 : bk14 < g47.heap.size := hHeld.lt _ (List.Mem.head _)
      have lbb48_1 : bk7 < g47.heap.size := hHeld.lt _ (List.Mem.tail _ (List.Mem.head _))
      have lbb48_2 : w.heap.size + 1 + 1 < g47.heap.size := hHeld.lt _ (List.Mem.tail _ (List.Mem.tail _ (List.Mem.head _)))
      have lbb48_3 : w.heap.size + 1 < g47.heap.size := hHeld.lt _ (List.Mem.tail _ (List.Mem.tail _ (List.Mem.tail _ (List.Mem.head _))))
      have lbb48_4 : w.heap.size < g47.heap.size := hHeld.lt _ (List.Mem.tail _ (List.Mem.tail _ (List.Mem.tail _ (List.Mem.tail _ (List.Mem.head _)))))
      refine hK.out _ _ (Bx.sub x64 (fun p hp => List.Mem.tail _ hp)) (fun _ => ?_)
      clear hK K hHeld
      generalize g47.alloc (.cells #[.int .u64 0, .int .u64 0, .int .u64 0, .int .u64 0] 24) = g63 at x64 ⊢
      generalize g47.heap.size = bb48 at x64 lbb48_0 lbb48_1 lbb48_2 lbb48_3 lbb48_4 ⊢
      refine wpAnyH_ready (rs := [1]) (by kernel_rfl) (by simp) ?_
      refine AllReadyH.cons op1 (fun K hK => ?_) AllReadyH.nil
      rw [if_pos (by rfl)]
      go_simp
      refine (one_any _).mono ?_
      rintro e g65 ⟨rfl, hB⟩
      have x66 : Bx w [(bb48, 0, 0, 0, 0), (bk14, q0, q1, q2, q3), (bk7, p0, p1, p2, p3), (w.heap.size + 1 + 1, c0, c1, c2, c3), (w.heap.size + 1, b0, b1, b2, b3), (w.heap.size, a0, a1, a2, a3)] g65 := x64.past hB
      clear hB x64
      (try go_wp2_with fail)
      refine hK.out _ _ (Bx.sub x66 (fun p hp => List.Mem.tail _ hp)) (fun _ => ?_)
      clear hK K
      refine wpAnyH_ready (rs := [2]) (by kernel_rfl) (by simp) ?_
      refine AllReadyH.cons op2 (fun K hK => ?_) AllReadyH.nil
      rw [if_pos (by rfl)]
      go_simp
      refine (HNX.out _).mono ?_
      rintro e g67 ⟨rfl, hB⟩
      have x68 : Bx w [(bb48, 0, 0, 0, 0), (bk14, q0, q1, q2, q3), (bk7, p0, p1, p2, p3), (w.heap.size + 1 + 1, c0, c1, c2, c3), (w.heap.size + 1, b0, b1, b2, b3), (w.heap.size, a0, a1, a2, a3)] g67 := x66.past hB
      clear hB x66
      (try go_wp2_with fail)
      refine hK.out _ _ (Bx.sub x68 (fun p hp => List.Mem.tail _ hp)) (fun _ => ?_)
      clear hK K
      refine wpAnyH_ready (rs := [4]) (by kernel_rfl) (by simp) ?_
      refine AllReadyH.cons op4 (fun K hK => ?_) AllReadyH.nil
      rw [if_pos (by rfl)]
      obtain ⟨cc0, cc1, cc2, cc3, ff0, ff1, ff2, ff3⟩ := x68.f0 (List.Mem.head _)
      go_simp
      have x70 : Bx w ((bb48, n0, n1, n2, n3) :: [(bk14, q0, q1, q2, q3), (bk7, p0, p1, p2, p3), (w.heap.size + 1 + 1, c0, c1, c2, c3), (w.heap.size + 1, b0, b1, b2, b3), (w.heap.size, a0, a1, a2, a3)]) ((((g67.setCell ⟨bb48, 0, none⟩ (.int .u64 n0)).setCell ⟨bb48, 1, none⟩ (.int .u64 n1)).setCell ⟨bb48, 2, none⟩ (.int .u64 n2)).setCell ⟨bb48, 3, none⟩ (.int .u64 n3)) := Bx.put x68 (by intro p hp; simp only [List.mem_cons, List.not_mem_nil, or_false] at hp; rcases hp with rfl | rfl | rfl | rfl | rfl <;> simp <;> omega) n0 n1 n2 n3
      refine hK.out _ _ (Bx.sub x70 (fun p hp => List.Mem.tail _ hp)) (fun _ => ?_)
      clear hK K cc0 cc1 cc2 cc3 ff0 ff1 ff2 ff3 x68
      generalize ((((g67.setCell ⟨bb48, 0, none⟩ (.int .u64 n0)).setCell ⟨bb48, 1, none⟩ (.int .u64 n1)).setCell ⟨bb48, 2, none⟩ (.int .u64 n2)).setCell ⟨bb48, 3, none⟩ (.int .u64 n3)) = g69 at x70 ⊢
      (try simp only [Act.put])
      refine wpAnyH_done (by kernel_rfl) ?_ _
      go_wp2
      go_meet
      case rel => exact ⟨bb48, rfl, lbb48_0, lbb48_1, lbb48_2, lbb48_3, lbb48_4, x70⟩
  case rest =>
    obtain ⟨bk46, rfl, lbk46_0, lbk46_1, lbk46_2, lbk46_3, lbk46_4, hX⟩ := hcut
    have X71 : Hid (Bx w [(bk46, n0, n1, n2, n3), (bk14, q0, q1, q2, q3), (bk7, p0, p1, p2, p3), (w.heap.size + 1 + 1, c0, c1, c2, c3), (w.heap.size + 1, b0, b1, b2, b3), (w.heap.size, a0, a1, a2, a3)] wc) := hX
    generalize wc = g72 at hX X71 ⊢
    clear hX X45
    go_upto_region 12 with fail
    refine wp_region_held_drew (S := fun w' => Bx w [(bk46, n0, n1, n2, n3), (bk14, q0, q1, q2, q3), (bk7, p0, p1, p2, p3), (w.heap.size + 1 + 1, c0, c1, c2, c3), (w.heap.size + 1, b0, b1, b2, b3), (w.heap.size, a0, a1, a2, a3)] w') (by kernel_rfl) X71.out.drew (fun hHeld => ?_)
    generalize g72.drew = g73 at hHeld ⊢
    clear X71
    refine wpAnyH_take (i := 0) (v := .agg #[.int .u64 a0, .int .u64 a1, .int .u64 a2, .int .u64 a3]) op0 (by kernel_rfl) (by kernel_rfl) (by kernel_rfl) (fun _ _ _ h => h) (Or.inl ⟨by rfl, fun W hS => ?_⟩) hHeld ?_
    · obtain ⟨c0, c1, c2, c3, _⟩ := hS.f0 (List.Mem.tail _ (List.Mem.tail _ (List.Mem.tail _ (List.Mem.tail _ (List.Mem.tail _ (List.Mem.head _))))))
      go_simp
    simp only [Act.put, List.setIfInBounds_toArray, List.set_cons_zero, List.set_cons_succ]
    refine wpAnyH_take (i := 1) (v := .agg #[.int .u64 n0, .int .u64 n1, .int .u64 n2, .int .u64 n3]) op1 (by kernel_rfl) (by kernel_rfl) (by kernel_rfl) (fun _ _ _ h => h) (Or.inl ⟨by rfl, fun W hS => ?_⟩) hHeld ?_
    · obtain ⟨c0, c1, c2, c3, _⟩ := hS.f0 (List.Mem.head _)
      go_simp
    simp only [Act.put, List.setIfInBounds_toArray, List.set_cons_zero, List.set_cons_succ]
    refine wpAnyH_take (i := 2) (v := .agg #[.int .u64 c0, .int .u64 c1, .int .u64 c2, .int .u64 c3]) op2 (by kernel_rfl) (by kernel_rfl) (by kernel_rfl) (fun _ _ _ h => h) (Or.inl ⟨by rfl, fun W hS => ?_⟩) hHeld ?_
    · obtain ⟨c0, c1, c2, c3, _⟩ := hS.f0 (List.Mem.tail _ (List.Mem.tail _ (List.Mem.tail _ (List.Mem.head _))))
      go_simp
    simp only [Act.put, List.setIfInBounds_toArray, List.set_cons_zero, List.set_cons_succ]
    refine wpAnyH_take (i := 4) (v := .agg #[.int .u64 p0, .int .u64 p1, .int .u64 p2, .int .u64 p3]) op4 (by kernel_rfl) (by kernel_rfl) (by kernel_rfl) (fun _ _ _ h => h) (Or.inl ⟨by rfl, fun W hS => ?_⟩) hHeld ?_
    · obtain ⟨c0, c1, c2, c3, _⟩ := hS.f0 (List.Mem.tail _ (List.Mem.tail _ (List.Mem.head _)))
      go_simp
    simp only [Act.put, List.setIfInBounds_toArray, List.set_cons_zero, List.set_cons_succ]
    refine wpAnyH_take (i := 6) (v := .agg #[.int .u64 c0, .int .u64 c1, .int .u64 c2, .int .u64 c3]) op6 (by kernel_rfl) (by kernel_rfl) (by kernel_rfl) (fun _ _ _ h => h) (Or.inl ⟨by rfl, fun W hS => ?_⟩) hHeld ?_
    · obtain ⟨c0, c1, c2, c3, _⟩ := hS.f0 (List.Mem.tail _ (List.Mem.tail _ (List.Mem.tail _ (List.Mem.head _))))
      go_simp
    simp only [Act.put, List.setIfInBounds_toArray, List.set_cons_zero, List.set_cons_succ]
    refine wpAnyH_ready (rs := [3]) (by kernel_rfl) (by simp) ?_
    refine AllReadyH.cons op3 (fun K hK => ?_) AllReadyH.nil
    rw [if_pos (by rfl)]
    go_simp
    refine (HAN.out _).mono ?_
    rintro e g74 ⟨rfl, hB⟩
    have x75 : Bx w [(bk46, n0, n1, n2, n3), (bk14, q0, q1, q2, q3), (bk7, p0, p1, p2, p3), (w.heap.size + 1 + 1, c0, c1, c2, c3), (w.heap.size + 1, b0, b1, b2, b3), (w.heap.size, a0, a1, a2, a3)] g74 := hHeld.past hB
    clear hB hHeld
    (try go_wp2_with fail)
    refine hK.out _ _ x75 (fun _ => ?_)
    clear hK K
    refine wpAnyH_ready (rs := [5]) (by kernel_rfl) (by simp) ?_
    refine AllReadyH.cons op5 (fun K hK => ?_) AllReadyH.nil
    rw [if_pos (by rfl)]
    go_simp
    refine (one_any _).mono ?_
    rintro e g76 ⟨rfl, hB⟩
    have x77 : Bx w [(bk46, n0, n1, n2, n3), (bk14, q0, q1, q2, q3), (bk7, p0, p1, p2, p3), (w.heap.size + 1 + 1, c0, c1, c2, c3), (w.heap.size + 1, b0, b1, b2, b3), (w.heap.size, a0, a1, a2, a3)] g76 := x75.past hB
    clear hB x75
    (try go_wp2_with fail)
    refine hK.out _ _ x77 (fun _ => ?_)
    clear hK K
    refine wpAnyH_ready (rs := [7]) (by kernel_rfl) (by simp) ?_
    refine AllReadyH.cons op7 (fun K hK => ?_) AllReadyH.nil
    rw [if_pos (by rfl)]
    go_simp
    refine (HA1.out _).mono ?_
    rintro e g78 ⟨rfl, hB⟩
    have x79 : Bx w [(bk46, n0, n1, n2, n3), (bk14, q0, q1, q2, q3), (bk7, p0, p1, p2, p3), (w.heap.size + 1 + 1, c0, c1, c2, c3), (w.heap.size + 1, b0, b1, b2, b3), (w.heap.size, a0, a1, a2, a3)] g78 := x77.past hB
    clear hB x77
    (try go_wp2_with fail)
    refine hK.out _ _ x79 (fun _ => ?_)
    clear hK K
    refine wpAnyH_take (i := 8) (v := .bool false) op8 (by kernel_rfl) (by kernel_rfl) (by kernel_rfl) (fun _ _ _ h => h) (Or.inl ⟨by rfl, fun W hS => ?_⟩) x79 ?_
    · go_simp
    simp only [Act.put, List.setIfInBounds_toArray, List.set_cons_zero, List.set_cons_succ]
    refine wpAnyH_done (by kernel_rfl) ?_ _
    have X80 : Hid (Bx w [(bk46, n0, n1, n2, n3), (bk14, q0, q1, q2, q3), (bk7, p0, p1, p2, p3), (w.heap.size + 1 + 1, c0, c1, c2, c3), (w.heap.size + 1, b0, b1, b2, b3), (w.heap.size, a0, a1, a2, a3)] g78) := x79
    clear x79
    go_upto_region 14 with fail
    refine wp_region_held_drew (S := fun w' => Bx w [(bk46, n0, n1, n2, n3), (bk14, q0, q1, q2, q3), (bk7, p0, p1, p2, p3), (w.heap.size + 1 + 1, c0, c1, c2, c3), (w.heap.size + 1, b0, b1, b2, b3), (w.heap.size, a0, a1, a2, a3)] w') (by kernel_rfl) X80.out.drew (fun hHeld => ?_)
    generalize g78.drew = g81 at hHeld ⊢
    clear X80
    refine wpAnyH_take (i := 0) (v := .agg #[.int .u64 a0, .int .u64 a1, .int .u64 a2, .int .u64 a3]) op0 (by kernel_rfl) (by kernel_rfl) (by kernel_rfl) (fun _ _ _ h => h) (Or.inl ⟨by rfl, fun W hS => ?_⟩) hHeld ?_
    · obtain ⟨c0, c1, c2, c3, _⟩ := hS.f0 (List.Mem.tail _ (List.Mem.tail _ (List.Mem.tail _ (List.Mem.tail _ (List.Mem.tail _ (List.Mem.head _))))))
      go_simp
    simp only [Act.put, List.setIfInBounds_toArray, List.set_cons_zero, List.set_cons_succ]
    refine wpAnyH_take (i := 1) (v := .agg #[.int .u64 n0, .int .u64 n1, .int .u64 n2, .int .u64 n3]) op1 (by kernel_rfl) (by kernel_rfl) (by kernel_rfl) (fun _ _ _ h => h) (Or.inl ⟨by rfl, fun W hS => ?_⟩) hHeld ?_
    · obtain ⟨c0, c1, c2, c3, _⟩ := hS.f0 (List.Mem.head _)
      go_simp
    simp only [Act.put, List.setIfInBounds_toArray, List.set_cons_zero, List.set_cons_succ]
    refine wpAnyH_take (i := 2) (v := .agg #[.int .u64 c0, .int .u64 c1, .int .u64 c2, .int .u64 c3]) op2 (by kernel_rfl) (by kernel_rfl) (by kernel_rfl) (fun _ _ _ h => h) (Or.inl ⟨by rfl, fun W hS => ?_⟩) hHeld ?_
    · obtain ⟨c0, c1, c2, c3, _⟩ := hS.f0 (List.Mem.tail _ (List.Mem.tail _ (List.Mem.tail _ (List.Mem.head _))))
      go_simp
    simp only [Act.put, List.setIfInBounds_toArray, List.set_cons_zero, List.set_cons_succ]
    refine wpAnyH_take (i := 4) (v := .agg #[.int .u64 q0, .int .u64 q1, .int .u64 q2, .int .u64 q3]) op4 (by kernel_rfl) (by kernel_rfl) (by kernel_rfl) (fun _ _ _ h => h) (Or.inl ⟨by rfl, fun W hS => ?_⟩) hHeld ?_
    · obtain ⟨c0, c1, c2, c3, _⟩ := hS.f0 (List.Mem.tail _ (List.Mem.head _))
      go_simp
    simp only [Act.put, List.setIfInBounds_toArray, List.set_cons_zero, List.set_cons_succ]
    refine wpAnyH_take (i := 5) (v := .agg #[.int .u64 a0, .int .u64 a1, .int .u64 a2, .int .u64 a3]) op5 (by kernel_rfl) (by kernel_rfl) (by kernel_rfl) (fun _ _ _ h => h) (Or.inl ⟨by rfl, fun W hS => ?_⟩) hHeld ?_
    · obtain ⟨c0, c1, c2, c3, _⟩ := hS.f0 (List.Mem.tail _ (List.Mem.tail _ (List.Mem.tail _ (List.Mem.tail _ (List.Mem.tail _ (List.Mem.head _))))))
      go_simp
    simp only [Act.put, List.setIfInBounds_toArray, List.set_cons_zero, List.set_cons_succ]
    refine wpAnyH_take (i := 6) (v := .agg #[.int .u64 c0, .int .u64 c1, .int .u64 c2, .int .u64 c3]) op6 (by kernel_rfl) (by kernel_rfl) (by kernel_rfl) (fun _ _ _ h => h) (Or.inl ⟨by rfl, fun W hS => ?_⟩) hHeld ?_
    · obtain ⟨c0, c1, c2, c3, _⟩ := hS.f0 (List.Mem.tail _ (List.Mem.tail _ (List.Mem.tail _ (List.Mem.head _))))
      go_simp
    simp only [Act.put, List.setIfInBounds_toArray, List.set_cons_zero, List.set_cons_succ]
    refine wpAnyH_ready (rs := [3]) (by kernel_rfl) (by simp) ?_
    refine AllReadyH.cons op3 (fun K hK => ?_) AllReadyH.nil
    rw [if_pos (by rfl)]
    go_simp
    refine (HMN.out _).mono ?_
    rintro e g82 ⟨rfl, hB⟩
    have x83 : Bx w [(bk46, n0, n1, n2, n3), (bk14, q0, q1, q2, q3), (bk7, p0, p1, p2, p3), (w.heap.size + 1 + 1, c0, c1, c2, c3), (w.heap.size + 1, b0, b1, b2, b3), (w.heap.size, a0, a1, a2, a3)] g82 := hHeld.past hB
    clear hB hHeld
    (try go_wp2_with fail)
    refine hK.out _ _ x83 (fun _ => ?_)
    clear hK K
    refine wpAnyH_ready (rs := [7]) (by kernel_rfl) (by simp) ?_
    refine AllReadyH.cons op7 (fun K hK => ?_) AllReadyH.nil
    rw [if_pos (by rfl)]
    go_simp
    refine (HAQ.out _).mono ?_
    rintro e g84 ⟨rfl, hB⟩
    have x85 : Bx w [(bk46, n0, n1, n2, n3), (bk14, q0, q1, q2, q3), (bk7, p0, p1, p2, p3), (w.heap.size + 1 + 1, c0, c1, c2, c3), (w.heap.size + 1, b0, b1, b2, b3), (w.heap.size, a0, a1, a2, a3)] g84 := x83.past hB
    clear hB x83
    (try go_wp2_with fail)
    refine hK.out _ _ x85 (fun _ => ?_)
    clear hK K
    refine wpAnyH_take (i := 8) (v := .bool true) op8 (by kernel_rfl) (by kernel_rfl) (by kernel_rfl) (fun _ _ _ h => h) (Or.inl ⟨by rfl, fun W hS => ?_⟩) x85 ?_
    · go_simp
    simp only [Act.put, List.setIfInBounds_toArray, List.set_cons_zero, List.set_cons_succ]
    refine wpAnyH_take (i := 9) (v := .bool true) op9 (by kernel_rfl) (by kernel_rfl) (by kernel_rfl) (fun _ _ _ h => h) (Or.inl ⟨by rfl, fun W hS => ?_⟩) x85 ?_
    · go_simp
    simp only [Act.put, List.setIfInBounds_toArray, List.set_cons_zero, List.set_cons_succ]
    refine wpAnyH_ready (rs := [10]) (by kernel_rfl) (by simp) ?_
    refine AllReadyH.cons op10 (fun K hK => ?_) AllReadyH.nil
    rw [if_pos (by rfl)]
    go_simp
    refine (awake_any _).mono ?_
    rintro e g86 ⟨rfl, hB⟩
    have x87 : Bx w [(bk46, n0, n1, n2, n3), (bk14, q0, q1, q2, q3), (bk7, p0, p1, p2, p3), (w.heap.size + 1 + 1, c0, c1, c2, c3), (w.heap.size + 1, b0, b1, b2, b3), (w.heap.size, a0, a1, a2, a3)] g86 := x85.past hB
    clear hB x85
    (try go_wp2_with fail)
    refine hK.out _ _ x87 (fun _ => ?_)
    clear hK K
    refine wpAnyH_take (i := 11) (v := .bool true) op11 (by kernel_rfl) (by kernel_rfl) (by kernel_rfl) (fun _ _ _ h => h) (Or.inl ⟨by rfl, fun W hS => ?_⟩) x87 ?_
    · go_simp
    simp only [Act.put, List.setIfInBounds_toArray, List.set_cons_zero, List.set_cons_succ]
    refine wpAnyH_take (i := 12) (v := .bool true) op12 (by kernel_rfl) (by kernel_rfl) (by kernel_rfl) (fun _ _ _ h => h) (Or.inl ⟨by rfl, fun W hS => ?_⟩) x87 ?_
    · go_simp
    simp only [Act.put, List.setIfInBounds_toArray, List.set_cons_zero, List.set_cons_succ]
    refine wpAnyH_done (by kernel_rfl) ?_ _
    have X88 : Hid (Bx w [(bk46, n0, n1, n2, n3), (bk14, q0, q1, q2, q3), (bk7, p0, p1, p2, p3), (w.heap.size + 1 + 1, c0, c1, c2, c3), (w.heap.size + 1, b0, b1, b2, b3), (w.heap.size, a0, a1, a2, a3)] g86) := x87
    clear x87
    go_wp2
    go_ret
    exact ⟨rfl, X88.out.bel⟩
end Go.Proofs.Ytpadpmkfhljiiaa
