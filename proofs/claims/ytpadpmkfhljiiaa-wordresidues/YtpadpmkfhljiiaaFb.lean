/- AddMod, its word named ahead. -/
import Derived.Test.YtpadpmkfhljiiaaFa
namespace Go.Proofs.Ytpadpmkfhljiiaa
open Go.RowKit
theorem oct_set (s0 s1 s2 s3 c : Int) : (fun i => if i = 4 then c else oct s0 s1 s2 s3 0 0 0 0 i) = oct s0 s1 s2 s3 c 0 0 0 := by
  funext i
  unfold oct
  by_cases h : i = 4
  · subst h; simp
  · rw [if_neg h]; simp [h]
set_option maxHeartbeats 2000000 in
set_option maxRecDepth 100000 in
theorem addMod_is (x y z : Int) (a0 a1 a2 a3 b0 b1 b2 b3 c0 c1 c2 c3 p0 p1 p2 p3 : Int) (w : World) (ha : IsW x a0 a1 a2 a3) (hb : IsW y b0 b1 b2 b3) (hc : IsW z c0 c1 c2 c3) (hp : IsW (md (x % MM + y % MM) (z % MM)) p0 p1 p2 p3) :
    Calls Try.prog 44 #[.agg #[.int .u64 a0, .int .u64 a1, .int .u64 a2, .int .u64 a3], .agg #[.int .u64 b0, .int .u64 b1, .int .u64 b2, .int .u64 b3], .agg #[.int .u64 c0, .int .u64 c1, .int .u64 c2, .int .u64 c3]] w fun e w' => e = .returned (.agg #[.int .u64 p0, .int .u64 p1, .int .u64 p2, .int .u64 p3]) ∧ Below w.heap.size w w' := by
  have HA : Hid (IsW x a0 a1 a2 a3) := ha
  have HB : Hid (IsW y b0 b1 b2 b3) := hb
  have HC : Hid (IsW z c0 c1 c2 c3) := hc
  have HP : Hid (IsW (md (x % MM + y % MM) (z % MM)) p0 p1 p2 p3) := hp
  clear ha hb hc hp
  go_enter Try.func44, Try.ntmps44
  go_upto_region 1 with fail
  have X1 : Hid (Bx w [(w.heap.size + 1 + 1 + 1, 0, 0, 0, 0), (w.heap.size + 1 + 1, c0, c1, c2, c3), (w.heap.size + 1, b0, b1, b2, b3), (w.heap.size, a0, a1, a2, a3)] ((((w.alloc (.cells #[.int .u64 a0, .int .u64 a1, .int .u64 a2, .int .u64 a3] 24)).alloc (.cells #[.int .u64 b0, .int .u64 b1, .int .u64 b2, .int .u64 b3] 24)).alloc (.cells #[.int .u64 c0, .int .u64 c1, .int .u64 c2, .int .u64 c3] 24)).alloc (.cells #[.int .u64 0, .int .u64 0, .int .u64 0, .int .u64 0] 24))) := by
    have h := ((((Bx.start w).alloc a0 a1 a2 a3).alloc b0 b1 b2 b3).alloc c0 c1 c2 c3).alloc 0 0 0 0
    simp only [World.size_alloc] at h
    exact h
  generalize ((((w.alloc (.cells #[.int .u64 a0, .int .u64 a1, .int .u64 a2, .int .u64 a3] 24)).alloc (.cells #[.int .u64 b0, .int .u64 b1, .int .u64 b2, .int .u64 b3] 24)).alloc (.cells #[.int .u64 c0, .int .u64 c1, .int .u64 c2, .int .u64 c3] 24)).alloc (.cells #[.int .u64 0, .int .u64 0, .int .u64 0, .int .u64 0] 24)) = g1 at X1 ⊢
  obtain ⟨e0, e1, e2, e3, _⟩ := X1.out.f0 (List.Mem.tail _ (List.Mem.tail _ (List.Mem.head _)))
  obtain ⟨d0, d1, d2, d3, _⟩ := X1.out.f0 (List.Mem.tail _ (List.Mem.tail _ (List.Mem.tail _ (List.Mem.head _))))
  go_upto_region 2 with (go_at_call 74; refine (addCarry_any x y _ _ _ _ _ _ _ _ _ HA.out HB.out).mono ?_; rintro e g2 ⟨s0, s1, s2, s3, k, rfl, hs, hk, k0, k1, hB⟩; (have X2 := X1.out.past hB); (have HS : Hid (IsW (x + y) s0 s1 s2 s3 ∧ V a0 a1 a2 a3 + V b0 b1 b2 b3 = V s0 s1 s2 s3 + MM * k ∧ 0 ≤ k ∧ k ≤ 1) := ⟨hs, hk, k0, k1⟩); clear hB hs hk)
  have X3 : Hid _ := X2.alloc s0 s1 s2 s3
  generalize g2.alloc (.cells #[.int .u64 s0, .int .u64 s1, .int .u64 s2, .int .u64 s3] 24) = g3 at X3 ⊢
  generalize g2.heap.size = bs at X3 ⊢
  clear X1 X2 e0 e1 e2 e3 d0 d1 d2 d3
  obtain ⟨e0, e1, e2, e3, _⟩ := X3.out.f0 (List.Mem.head _)
  go_upto_region 3 with (first
    | (go_at_call 81; refine (widen_is s0 s1 s2 s3 _).mono ?_; rintro e g4 ⟨rfl, hB⟩; (have X4 := X3.out.past hB); clear hB)
    | (refine new8 (oct s0 s1 s2 s3 0 0 0 0) _ _ rfl rfl rfl rfl rfl rfl rfl ?_; intro g5 hB5 hR5; (have X5 : Hid _ := X4.past hB5); (have R5 : Hid (Row g5 g4.heap.size 8 (oct s0 s1 s2 s3 0 0 0 0)) := hR5); (have F5 : Hid _ := X4.fresh); (have L5 : Hid (w.heap.size ≤ g4.heap.size) := X4.bel.size); clear hB5 hR5))
  clear X3 X4 e0 e1 e2 e3
  generalize g4.heap.size = bw at R5 F5 L5 ⊢
  have c4 := (R5.out 4 (by omega)).1
  have f4 := (R5.out 4 (by omega)).2
  go_upto_region 4 with fail
  have X6 : Hid _ := X5.out.setc bw 4 (.int .u64 k) L5.out F5.out
  have R6 : Hid (Row (g5.setCell ⟨bw, 4, none⟩ (.int .u64 k)) bw 8 (oct s0 s1 s2 s3 k 0 0 0)) := by
    have h := R5.out.set 4 k
    rw [oct_set] at h; exact h
  generalize g5.setCell ⟨bw, 4, none⟩ (.int .u64 k) = g6 at X6 R6 ⊢
  clear X5 R5 c4 f4
  have DV : Hid (∀ W : World, Calls Try.prog 80 #[.agg (rowL 8 (oct s0 s1 s2 s3 k 0 0 0)).toArray, .agg #[.int .u64 c0, .int .u64 c1, .int .u64 c2, .int .u64 c3]] W fun e w' => DR (x % MM + y % MM) (z % MM) p0 p1 p2 p3 e ∧ Below W.heap.size W w') := fun W => by
    obtain ⟨hs, hk, k0, k1⟩ := HS.out
    refine divide_p _ _ z c0 c1 c2 c3 p0 p1 p2 p3 (oct_u64 hs.u0 hs.u1 hs.u2 hs.u3 ⟨k0, by unfold Bd; omega⟩ u64_0 u64_0 u64_0) ?_ HC.out HP.out W
    rw [oct_nv, ← HA.out.2, ← HB.out.2, hk]; simp [V]
  obtain ⟨e0, e1, e2, e3, _⟩ := X6.out.f0 (List.Mem.tail _ (List.Mem.tail _ (List.Mem.head _)))
  go_upto_region 4 with fail
  refine wp_region_lit ?_
  refine load8 (oct s0 s1 s2 s3 k 0 0 0) bw rfl _ rfl rfl (Row.range R6.out) ?_
  go_upto_region 5 with (first
    | (go_at_call 80; refine (DV.out _).mono ?_; rintro e g7 ⟨⟨q, rfl, hq⟩, hB⟩; (have X7 := X6.out.past hB); clear hB)
    | (refine new84 q p0 p1 p2 p3 _ _ _ _ rfl rfl rfl rfl rfl rfl rfl rfl rfl rfl rfl rfl rfl rfl ?_; intro g8 hB8 hR8 hP8; (have X8 : Hid _ := X7.past hB8); (have P8 : Hid (Box g8 (g7.heap.size + 1) p0 p1 p2 p3) := hP8); (have L8 : Hid (g7.heap.size < g8.heap.size) := Row.lt hR8 (by omega)); clear hB8 hR8 hP8))
  obtain ⟨f0, f1, f2, f3, _⟩ := Box.facts P8.out
  obtain ⟨r0, r1, r2, r3, t0, t1, t2, t3⟩ := X8.out.f0 (List.Mem.tail _ (List.Mem.head _))
  clear X6 R6 DV X7 e0 e1 e2 e3
  go_wp2
  refine bodyPost_ret (v := .agg #[.int .u64 p0, .int .u64 p1, .int .u64 p2, .int .u64 p3]) ?_ rfl ⟨rfl, below_put X8.out.bel (by omega) p0 p1 p2 p3⟩
  exact results_c Try.results44 _ _ _ ⟨w.heap.size + 1 + 1 + 1, 0, none⟩ rfl (loadVar4 (Box.put (X8.out.box _ (List.Mem.tail _ (List.Mem.head _))) p0 p1 p2 p3))
end Go.Proofs.Ytpadpmkfhljiiaa
