/- The document's 'worth' of a sign; word.lengthen. -/
import Derived.Test.YtpadpmkfhljiiaaMa
import Derived.Test.YtpadpmkfhljiiaaWm
import Derived.Test.YtpadpmkfhljiiaaXi
namespace Go.Proofs.Ytpadpmkfhljiiaa
open Go.RowKit
set_option maxHeartbeats 4000000 in
set_option maxRecDepth 100000 in
theorem lengthen_is (a0 a1 a2 a3 : Int) (B D : Int) (h0 : U64 a0) (h1 : U64 a1) (h2 : U64 a2) (h3 : U64 a3) (hB : U64 B) (hD : U64 D) :
    ∃ l0 l1 l2 l3 h : Int, (U64 l0 ∧ U64 l1 ∧ U64 l2 ∧ U64 l3 ∧ U64 h) ∧ Hid (V a0 a1 a2 a3 * B + D = V l0 l1 l2 l3 + MM * h) ∧
      ∀ w : World, Calls Try.prog 107 #[.agg #[.int .u64 a0, .int .u64 a1, .int .u64 a2, .int .u64 a3], .int .u64 B, .int .u64 D] w fun e w' => e = .returned (.tuple #[.agg #[.int .u64 l0, .int .u64 l1, .int .u64 l2, .int .u64 l3], .int .u64 h]) ∧ Below w.heap.size w w' := by
  obtain ⟨e0, l0, C0, u0, v0, m0⟩ := mulAdd_ex a0 B D h0 hB hD
  obtain ⟨e1, l1, C1, u1, v1, m1⟩ := mulAdd_ex a1 B e0 h1 hB u0
  obtain ⟨e2, l2, C2, u2, v2, m2⟩ := mulAdd_ex a2 B e1 h2 hB u1
  obtain ⟨e3, l3, C3, u3, v3, m3⟩ := mulAdd_ex a3 B e2 h3 hB u2
  refine ⟨l0, l1, l2, l3, e3, ⟨v0, v1, v2, v3, u3⟩, ?_, fun w => ?_⟩
  · have n0 := m0.out
    have n1 := m1.out
    have n2 := m2.out
    have n3 := m3.out
    unfold Hid V MM Bd at *
    simp only [Int.add_mul, Int.mul_assoc] at *
    generalize a0 * B = z0 at *
    generalize a1 * B = z1 at *
    generalize a2 * B = z2 at *
    generalize a3 * B = z3 at *
    omega
  have D0 : Hid (∀ w : World, Calls Try.prog 100 #[.int .u64 a0, .int .u64 B, .int .u64 D] w fun e w' => e = .returned (.tuple #[.int .u64 e0, .int .u64 l0]) ∧ w' = w) := C0
  have D1 : Hid (∀ w : World, Calls Try.prog 100 #[.int .u64 a1, .int .u64 B, .int .u64 e0] w fun e w' => e = .returned (.tuple #[.int .u64 e1, .int .u64 l1]) ∧ w' = w) := C1
  have D2 : Hid (∀ w : World, Calls Try.prog 100 #[.int .u64 a2, .int .u64 B, .int .u64 e1] w fun e w' => e = .returned (.tuple #[.int .u64 e2, .int .u64 l2]) ∧ w' = w) := C2
  have D3 : Hid (∀ w : World, Calls Try.prog 100 #[.int .u64 a3, .int .u64 B, .int .u64 e2] w fun e w' => e = .returned (.tuple #[.int .u64 e3, .int .u64 l3]) ∧ w' = w) := C3
  clear C0 C1 C2 C3 m0 m1 m2 m3
  have K0 : Hid (Bx w [(w.heap.size + 1, 0, 0, 0, 0), (w.heap.size, a0, a1, a2, a3)] ((w.alloc (.cells #[.int .u64 a0, .int .u64 a1, .int .u64 a2, .int .u64 a3] 24)).alloc (.cells #[.int .u64 0, .int .u64 0, .int .u64 0, .int .u64 0] 24))) := by
    have h := ((Bx.start w).alloc a0 a1 a2 a3).alloc 0 0 0 0
    (try simp only [World.size_alloc] at h)
    exact h
  go_enter Try.func107, Try.ntmps107
  go_upto_region 1 with fail
  generalize (w.alloc (.cells #[.int .u64 a0, .int .u64 a1, .int .u64 a2, .int .u64 a3] 24)).alloc (.cells #[.int .u64 0, .int .u64 0, .int .u64 0, .int .u64 0] 24) = x0 at K0 ⊢
  go_wp2
  refine wp_loop_rounds 5 ?_
  obtain ⟨c0, c1, c2, c3, z0, z1, z2, z3⟩ := K0.out.f0 (List.Mem.tail _ (List.Mem.head _))
  rw [rounds_succ]
  go_wp2_with (go_at_call 100; refine (D0.out _).mono ?_; rintro e w' ⟨rfl, hw⟩; (have hw2 := hw.symm); clear hw; subst hw2)
  have K1 : Hid (Bx w [(w.heap.size + 1, 0, 0, 0, 0), (w.heap.size, l0, a1, a2, a3)] (x0.setCell ⟨w.heap.size, 0, none⟩ (.int .u64 l0))) := K0.out.upd (by omega) 0 _ (by omega) (fun i hi => by rcases four_cases i hi with rfl | rfl | rfl | rfl <;> rfl)
  clear K0 c0 c1 c2 c3 z0 z1 z2 z3
  generalize x0.setCell ⟨w.heap.size, 0, none⟩ (.int .u64 l0) = x1 at K1 ⊢
  obtain ⟨c0, c1, c2, c3, z0, z1, z2, z3⟩ := K1.out.f0 (List.Mem.tail _ (List.Mem.head _))
  rw [rounds_succ]
  go_wp2_with (go_at_call 100; refine (D1.out _).mono ?_; rintro e w' ⟨rfl, hw⟩; (have hw2 := hw.symm); clear hw; subst hw2)
  have K2 : Hid (Bx w [(w.heap.size + 1, 0, 0, 0, 0), (w.heap.size, l0, l1, a2, a3)] (x1.setCell ⟨w.heap.size, 1, none⟩ (.int .u64 l1))) := K1.out.upd (by omega) 1 _ (by omega) (fun i hi => by rcases four_cases i hi with rfl | rfl | rfl | rfl <;> rfl)
  clear K1 c0 c1 c2 c3 z0 z1 z2 z3
  generalize x1.setCell ⟨w.heap.size, 1, none⟩ (.int .u64 l1) = x2 at K2 ⊢
  obtain ⟨c0, c1, c2, c3, z0, z1, z2, z3⟩ := K2.out.f0 (List.Mem.tail _ (List.Mem.head _))
  rw [rounds_succ]
  go_wp2_with (go_at_call 100; refine (D2.out _).mono ?_; rintro e w' ⟨rfl, hw⟩; (have hw2 := hw.symm); clear hw; subst hw2)
  have K3 : Hid (Bx w [(w.heap.size + 1, 0, 0, 0, 0), (w.heap.size, l0, l1, l2, a3)] (x2.setCell ⟨w.heap.size, 2, none⟩ (.int .u64 l2))) := K2.out.upd (by omega) 2 _ (by omega) (fun i hi => by rcases four_cases i hi with rfl | rfl | rfl | rfl <;> rfl)
  clear K2 c0 c1 c2 c3 z0 z1 z2 z3
  generalize x2.setCell ⟨w.heap.size, 2, none⟩ (.int .u64 l2) = x3 at K3 ⊢
  obtain ⟨c0, c1, c2, c3, z0, z1, z2, z3⟩ := K3.out.f0 (List.Mem.tail _ (List.Mem.head _))
  rw [rounds_succ]
  go_wp2_with (go_at_call 100; refine (D3.out _).mono ?_; rintro e w' ⟨rfl, hw⟩; (have hw2 := hw.symm); clear hw; subst hw2)
  have K4 : Hid (Bx w [(w.heap.size + 1, 0, 0, 0, 0), (w.heap.size, l0, l1, l2, l3)] (x3.setCell ⟨w.heap.size, 3, none⟩ (.int .u64 l3))) := K3.out.upd (by omega) 3 _ (by omega) (fun i hi => by rcases four_cases i hi with rfl | rfl | rfl | rfl <;> rfl)
  clear K3 c0 c1 c2 c3 z0 z1 z2 z3
  generalize x3.setCell ⟨w.heap.size, 3, none⟩ (.int .u64 l3) = x4 at K4 ⊢
  obtain ⟨c0, c1, c2, c3, _⟩ := K4.out.f0 (List.Mem.tail _ (List.Mem.head _))
  obtain ⟨z0, z1, z2, z3, y0, y1, y2, y3⟩ := K4.out.f0 (List.Mem.head _)
  rw [rounds_succ]
  go_wp2
  exact bodyPost_ret (v := .tuple #[.agg #[.int .u64 l0, .int .u64 l1, .int .u64 l2, .int .u64 l3], .int .u64 e3]) (by simp [results, Try.results107, go_sem, z0, z1, z2, z3]) rfl ⟨rfl, below_put K4.out.bel (by omega) _ _ _ _⟩
end Go.Proofs.Ytpadpmkfhljiiaa
