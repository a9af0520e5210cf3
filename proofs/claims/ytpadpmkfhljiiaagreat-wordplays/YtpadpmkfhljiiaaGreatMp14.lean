/- The closures that word.Do calls, and 'truth'. -/
import Derived.Test.YtpadpmkfhljiiaaGreatMp3
import Derived.Test.YtpadpmkfhljiiaaGreatMp4
import Derived.Test.YtpadpmkfhljiiaaGreatMp1
import Derived.Deep.RegionHeld3
namespace Go.Proofs.YtpadpmkfhljiiaaGreat
open Go.RowKit
set_option maxHeartbeats 4000000 in
set_option maxRecDepth 100000 in
theorem deed_1 (a0 a1 a2 a3 b0 b1 b2 b3 c0 c1 c2 c3 p0 p1 p2 p3 : Int) (X : ∀ W : World, Calls Tryz.prog 11 #[.agg #[.int .u64 a0, .int .u64 a1, .int .u64 a2, .int .u64 a3], .agg #[.int .u64 b0, .int .u64 b1, .int .u64 b2, .int .u64 b3]] W fun e w' => e = .returned (.agg #[.int .u64 p0, .int .u64 p1, .int .u64 p2, .int .u64 p3]) ∧ Below W.heap.size W w') (w : World) :
    Calls Tryz.prog 135 #[.agg #[.int .u64 a0, .int .u64 a1, .int .u64 a2, .int .u64 a3], .agg #[.int .u64 b0, .int .u64 b1, .int .u64 b2, .int .u64 b3], .agg #[.int .u64 c0, .int .u64 c1, .int .u64 c2, .int .u64 c3]] w fun e w' => e = .returned (.agg #[.int .u64 p0, .int .u64 p1, .int .u64 p2, .int .u64 p3]) ∧ Below w.heap.size w w' := by
  have HX : Hid _ := X
  clear X
  go_enter Tryz.func135, Tryz.ntmps135
  go_upto_region 1 with fail
  have K0 : Hid (Bx w [(w.heap.size + 1 + 1 + 1, 0, 0, 0, 0), (w.heap.size + 1 + 1, c0, c1, c2, c3), (w.heap.size + 1, b0, b1, b2, b3), (w.heap.size, a0, a1, a2, a3)] ((((w.alloc (.cells #[.int .u64 a0, .int .u64 a1, .int .u64 a2, .int .u64 a3] 24)).alloc (.cells #[.int .u64 b0, .int .u64 b1, .int .u64 b2, .int .u64 b3] 24)).alloc (.cells #[.int .u64 c0, .int .u64 c1, .int .u64 c2, .int .u64 c3] 24)).alloc (.cells #[.int .u64 0, .int .u64 0, .int .u64 0, .int .u64 0] 24))) := by
    have h := ((((Bx.start w).alloc a0 a1 a2 a3).alloc b0 b1 b2 b3).alloc c0 c1 c2 c3).alloc 0 0 0 0
    (try simp only [World.size_alloc] at h)
    exact h
  generalize ((((w.alloc (.cells #[.int .u64 a0, .int .u64 a1, .int .u64 a2, .int .u64 a3] 24)).alloc (.cells #[.int .u64 b0, .int .u64 b1, .int .u64 b2, .int .u64 b3] 24)).alloc (.cells #[.int .u64 c0, .int .u64 c1, .int .u64 c2, .int .u64 c3] 24)).alloc (.cells #[.int .u64 0, .int .u64 0, .int .u64 0, .int .u64 0] 24)) = W0 at K0 ⊢
  obtain ⟨ka0, ka1, ka2, ka3, _⟩ := K0.out.f0 mm3
  obtain ⟨kb0, kb1, kb2, kb3, _⟩ := K0.out.f0 mm2
  go_wp2_with (go_at_call 11; refine (HX.out _).mono ?_; rintro e x9 ⟨rfl, hB⟩; (have K9 : Hid _ := K0.out.past hB); clear hB K0 ka0 ka1 ka2 ka3 kb0 kb1 kb2 kb3; obtain ⟨r0, r1, r2, r3, f0, f1, f2, f3⟩ := K9.out.f0 mm0)
  exact bodyPost_ret (v := .agg #[.int .u64 p0, .int .u64 p1, .int .u64 p2, .int .u64 p3]) (by simp [results, Tryz.results135, go_sem, r0, r1, r2, r3]) rfl ⟨rfl, below_put K9.out.bel (by omega) _ _ _ _⟩
set_option maxHeartbeats 4000000 in
set_option maxRecDepth 100000 in
theorem deed_2 (a0 a1 a2 a3 b0 b1 b2 b3 c0 c1 c2 c3 p0 p1 p2 p3 : Int) (X : ∀ W : World, Calls Tryz.prog 15 #[.agg #[.int .u64 a0, .int .u64 a1, .int .u64 a2, .int .u64 a3], .agg #[.int .u64 b0, .int .u64 b1, .int .u64 b2, .int .u64 b3]] W fun e w' => e = .returned (.agg #[.int .u64 p0, .int .u64 p1, .int .u64 p2, .int .u64 p3]) ∧ Below W.heap.size W w') (w : World) :
    Calls Tryz.prog 136 #[.agg #[.int .u64 a0, .int .u64 a1, .int .u64 a2, .int .u64 a3], .agg #[.int .u64 b0, .int .u64 b1, .int .u64 b2, .int .u64 b3], .agg #[.int .u64 c0, .int .u64 c1, .int .u64 c2, .int .u64 c3]] w fun e w' => e = .returned (.agg #[.int .u64 p0, .int .u64 p1, .int .u64 p2, .int .u64 p3]) ∧ Below w.heap.size w w' := by
  have HX : Hid _ := X
  clear X
  go_enter Tryz.func136, Tryz.ntmps136
  go_upto_region 1 with fail
  have K0 : Hid (Bx w [(w.heap.size + 1 + 1 + 1, 0, 0, 0, 0), (w.heap.size + 1 + 1, c0, c1, c2, c3), (w.heap.size + 1, b0, b1, b2, b3), (w.heap.size, a0, a1, a2, a3)] ((((w.alloc (.cells #[.int .u64 a0, .int .u64 a1, .int .u64 a2, .int .u64 a3] 24)).alloc (.cells #[.int .u64 b0, .int .u64 b1, .int .u64 b2, .int .u64 b3] 24)).alloc (.cells #[.int .u64 c0, .int .u64 c1, .int .u64 c2, .int .u64 c3] 24)).alloc (.cells #[.int .u64 0, .int .u64 0, .int .u64 0, .int .u64 0] 24))) := by
    have h := ((((Bx.start w).alloc a0 a1 a2 a3).alloc b0 b1 b2 b3).alloc c0 c1 c2 c3).alloc 0 0 0 0
    (try simp only [World.size_alloc] at h)
    exact h
  generalize ((((w.alloc (.cells #[.int .u64 a0, .int .u64 a1, .int .u64 a2, .int .u64 a3] 24)).alloc (.cells #[.int .u64 b0, .int .u64 b1, .int .u64 b2, .int .u64 b3] 24)).alloc (.cells #[.int .u64 c0, .int .u64 c1, .int .u64 c2, .int .u64 c3] 24)).alloc (.cells #[.int .u64 0, .int .u64 0, .int .u64 0, .int .u64 0] 24)) = W0 at K0 ⊢
  obtain ⟨ka0, ka1, ka2, ka3, _⟩ := K0.out.f0 mm3
  obtain ⟨kb0, kb1, kb2, kb3, _⟩ := K0.out.f0 mm2
  go_wp2_with (go_at_call 15; refine (HX.out _).mono ?_; rintro e x9 ⟨rfl, hB⟩; (have K9 : Hid _ := K0.out.past hB); clear hB K0 ka0 ka1 ka2 ka3 kb0 kb1 kb2 kb3; obtain ⟨r0, r1, r2, r3, f0, f1, f2, f3⟩ := K9.out.f0 mm0)
  exact bodyPost_ret (v := .agg #[.int .u64 p0, .int .u64 p1, .int .u64 p2, .int .u64 p3]) (by simp [results, Tryz.results136, go_sem, r0, r1, r2, r3]) rfl ⟨rfl, below_put K9.out.bel (by omega) _ _ _ _⟩
set_option maxHeartbeats 4000000 in
set_option maxRecDepth 100000 in
theorem deed_3 (a0 a1 a2 a3 b0 b1 b2 b3 c0 c1 c2 c3 p0 p1 p2 p3 : Int) (X : ∀ W : World, Calls Tryz.prog 13 #[.agg #[.int .u64 a0, .int .u64 a1, .int .u64 a2, .int .u64 a3], .agg #[.int .u64 b0, .int .u64 b1, .int .u64 b2, .int .u64 b3]] W fun e w' => e = .returned (.agg #[.int .u64 p0, .int .u64 p1, .int .u64 p2, .int .u64 p3]) ∧ Below W.heap.size W w') (w : World) :
    Calls Tryz.prog 137 #[.agg #[.int .u64 a0, .int .u64 a1, .int .u64 a2, .int .u64 a3], .agg #[.int .u64 b0, .int .u64 b1, .int .u64 b2, .int .u64 b3], .agg #[.int .u64 c0, .int .u64 c1, .int .u64 c2, .int .u64 c3]] w fun e w' => e = .returned (.agg #[.int .u64 p0, .int .u64 p1, .int .u64 p2, .int .u64 p3]) ∧ Below w.heap.size w w' := by
  have HX : Hid _ := X
  clear X
  go_enter Tryz.func137, Tryz.ntmps137
  go_upto_region 1 with fail
  have K0 : Hid (Bx w [(w.heap.size + 1 + 1 + 1, 0, 0, 0, 0), (w.heap.size + 1 + 1, c0, c1, c2, c3), (w.heap.size + 1, b0, b1, b2, b3), (w.heap.size, a0, a1, a2, a3)] ((((w.alloc (.cells #[.int .u64 a0, .int .u64 a1, .int .u64 a2, .int .u64 a3] 24)).alloc (.cells #[.int .u64 b0, .int .u64 b1, .int .u64 b2, .int .u64 b3] 24)).alloc (.cells #[.int .u64 c0, .int .u64 c1, .int .u64 c2, .int .u64 c3] 24)).alloc (.cells #[.int .u64 0, .int .u64 0, .int .u64 0, .int .u64 0] 24))) := by
    have h := ((((Bx.start w).alloc a0 a1 a2 a3).alloc b0 b1 b2 b3).alloc c0 c1 c2 c3).alloc 0 0 0 0
    (try simp only [World.size_alloc] at h)
    exact h
  generalize ((((w.alloc (.cells #[.int .u64 a0, .int .u64 a1, .int .u64 a2, .int .u64 a3] 24)).alloc (.cells #[.int .u64 b0, .int .u64 b1, .int .u64 b2, .int .u64 b3] 24)).alloc (.cells #[.int .u64 c0, .int .u64 c1, .int .u64 c2, .int .u64 c3] 24)).alloc (.cells #[.int .u64 0, .int .u64 0, .int .u64 0, .int .u64 0] 24)) = W0 at K0 ⊢
  obtain ⟨ka0, ka1, ka2, ka3, _⟩ := K0.out.f0 mm3
  obtain ⟨kb0, kb1, kb2, kb3, _⟩ := K0.out.f0 mm2
  go_wp2_with (go_at_call 13; refine (HX.out _).mono ?_; rintro e x9 ⟨rfl, hB⟩; (have K9 : Hid _ := K0.out.past hB); clear hB K0 ka0 ka1 ka2 ka3 kb0 kb1 kb2 kb3; obtain ⟨r0, r1, r2, r3, f0, f1, f2, f3⟩ := K9.out.f0 mm0)
  exact bodyPost_ret (v := .agg #[.int .u64 p0, .int .u64 p1, .int .u64 p2, .int .u64 p3]) (by simp [results, Tryz.results137, go_sem, r0, r1, r2, r3]) rfl ⟨rfl, below_put K9.out.bel (by omega) _ _ _ _⟩
set_option maxHeartbeats 4000000 in
set_option maxRecDepth 100000 in
theorem deed_4 (a0 a1 a2 a3 b0 b1 b2 b3 c0 c1 c2 c3 p0 p1 p2 p3 : Int) (X : ∀ W : World, Calls Tryz.prog 17 #[.agg #[.int .u64 a0, .int .u64 a1, .int .u64 a2, .int .u64 a3], .agg #[.int .u64 b0, .int .u64 b1, .int .u64 b2, .int .u64 b3]] W fun e w' => e = .returned (.agg #[.int .u64 p0, .int .u64 p1, .int .u64 p2, .int .u64 p3]) ∧ Below W.heap.size W w') (w : World) :
    Calls Tryz.prog 138 #[.agg #[.int .u64 a0, .int .u64 a1, .int .u64 a2, .int .u64 a3], .agg #[.int .u64 b0, .int .u64 b1, .int .u64 b2, .int .u64 b3], .agg #[.int .u64 c0, .int .u64 c1, .int .u64 c2, .int .u64 c3]] w fun e w' => e = .returned (.agg #[.int .u64 p0, .int .u64 p1, .int .u64 p2, .int .u64 p3]) ∧ Below w.heap.size w w' := by
  have HX : Hid _ := X
  clear X
  go_enter Tryz.func138, Tryz.ntmps138
  go_upto_region 1 with fail
  have K0 : Hid (Bx w [(w.heap.size + 1 + 1 + 1, 0, 0, 0, 0), (w.heap.size + 1 + 1, c0, c1, c2, c3), (w.heap.size + 1, b0, b1, b2, b3), (w.heap.size, a0, a1, a2, a3)] ((((w.alloc (.cells #[.int .u64 a0, .int .u64 a1, .int .u64 a2, .int .u64 a3] 24)).alloc (.cells #[.int .u64 b0, .int .u64 b1, .int .u64 b2, .int .u64 b3] 24)).alloc (.cells #[.int .u64 c0, .int .u64 c1, .int .u64 c2, .int .u64 c3] 24)).alloc (.cells #[.int .u64 0, .int .u64 0, .int .u64 0, .int .u64 0] 24))) := by
    have h := ((((Bx.start w).alloc a0 a1 a2 a3).alloc b0 b1 b2 b3).alloc c0 c1 c2 c3).alloc 0 0 0 0
    (try simp only [World.size_alloc] at h)
    exact h
  generalize ((((w.alloc (.cells #[.int .u64 a0, .int .u64 a1, .int .u64 a2, .int .u64 a3] 24)).alloc (.cells #[.int .u64 b0, .int .u64 b1, .int .u64 b2, .int .u64 b3] 24)).alloc (.cells #[.int .u64 c0, .int .u64 c1, .int .u64 c2, .int .u64 c3] 24)).alloc (.cells #[.int .u64 0, .int .u64 0, .int .u64 0, .int .u64 0] 24)) = W0 at K0 ⊢
  obtain ⟨ka0, ka1, ka2, ka3, _⟩ := K0.out.f0 mm3
  obtain ⟨kb0, kb1, kb2, kb3, _⟩ := K0.out.f0 mm2
  go_wp2_with (go_at_call 17; refine (HX.out _).mono ?_; rintro e x9 ⟨rfl, hB⟩; (have K9 : Hid _ := K0.out.past hB); clear hB K0 ka0 ka1 ka2 ka3 kb0 kb1 kb2 kb3; obtain ⟨r0, r1, r2, r3, f0, f1, f2, f3⟩ := K9.out.f0 mm0)
  exact bodyPost_ret (v := .agg #[.int .u64 p0, .int .u64 p1, .int .u64 p2, .int .u64 p3]) (by simp [results, Tryz.results138, go_sem, r0, r1, r2, r3]) rfl ⟨rfl, below_put K9.out.bel (by omega) _ _ _ _⟩
set_option maxHeartbeats 4000000 in
set_option maxRecDepth 100000 in
theorem deed_5 (a0 a1 a2 a3 b0 b1 b2 b3 c0 c1 c2 c3 p0 p1 p2 p3 : Int) (X : ∀ W : World, Calls Tryz.prog 22 #[.agg #[.int .u64 a0, .int .u64 a1, .int .u64 a2, .int .u64 a3], .agg #[.int .u64 b0, .int .u64 b1, .int .u64 b2, .int .u64 b3]] W fun e w' => e = .returned (.agg #[.int .u64 p0, .int .u64 p1, .int .u64 p2, .int .u64 p3]) ∧ Below W.heap.size W w') (w : World) :
    Calls Tryz.prog 139 #[.agg #[.int .u64 a0, .int .u64 a1, .int .u64 a2, .int .u64 a3], .agg #[.int .u64 b0, .int .u64 b1, .int .u64 b2, .int .u64 b3], .agg #[.int .u64 c0, .int .u64 c1, .int .u64 c2, .int .u64 c3]] w fun e w' => e = .returned (.agg #[.int .u64 p0, .int .u64 p1, .int .u64 p2, .int .u64 p3]) ∧ Below w.heap.size w w' := by
  have HX : Hid _ := X
  clear X
  go_enter Tryz.func139, Tryz.ntmps139
  go_upto_region 1 with fail
  have K0 : Hid (Bx w [(w.heap.size + 1 + 1 + 1, 0, 0, 0, 0), (w.heap.size + 1 + 1, c0, c1, c2, c3), (w.heap.size + 1, b0, b1, b2, b3), (w.heap.size, a0, a1, a2, a3)] ((((w.alloc (.cells #[.int .u64 a0, .int .u64 a1, .int .u64 a2, .int .u64 a3] 24)).alloc (.cells #[.int .u64 b0, .int .u64 b1, .int .u64 b2, .int .u64 b3] 24)).alloc (.cells #[.int .u64 c0, .int .u64 c1, .int .u64 c2, .int .u64 c3] 24)).alloc (.cells #[.int .u64 0, .int .u64 0, .int .u64 0, .int .u64 0] 24))) := by
    have h := ((((Bx.start w).alloc a0 a1 a2 a3).alloc b0 b1 b2 b3).alloc c0 c1 c2 c3).alloc 0 0 0 0
    (try simp only [World.size_alloc] at h)
    exact h
  generalize ((((w.alloc (.cells #[.int .u64 a0, .int .u64 a1, .int .u64 a2, .int .u64 a3] 24)).alloc (.cells #[.int .u64 b0, .int .u64 b1, .int .u64 b2, .int .u64 b3] 24)).alloc (.cells #[.int .u64 c0, .int .u64 c1, .int .u64 c2, .int .u64 c3] 24)).alloc (.cells #[.int .u64 0, .int .u64 0, .int .u64 0, .int .u64 0] 24)) = W0 at K0 ⊢
  obtain ⟨ka0, ka1, ka2, ka3, _⟩ := K0.out.f0 mm3
  obtain ⟨kb0, kb1, kb2, kb3, _⟩ := K0.out.f0 mm2
  go_wp2_with (go_at_call 22; refine (HX.out _).mono ?_; rintro e x9 ⟨rfl, hB⟩; (have K9 : Hid _ := K0.out.past hB); clear hB K0 ka0 ka1 ka2 ka3 kb0 kb1 kb2 kb3; obtain ⟨r0, r1, r2, r3, f0, f1, f2, f3⟩ := K9.out.f0 mm0)
  exact bodyPost_ret (v := .agg #[.int .u64 p0, .int .u64 p1, .int .u64 p2, .int .u64 p3]) (by simp [results, Tryz.results139, go_sem, r0, r1, r2, r3]) rfl ⟨rfl, below_put K9.out.bel (by omega) _ _ _ _⟩
set_option maxHeartbeats 4000000 in
set_option maxRecDepth 100000 in
theorem deed_6 (a0 a1 a2 a3 b0 b1 b2 b3 c0 c1 c2 c3 p0 p1 p2 p3 : Int) (X : ∀ W : World, Calls Tryz.prog 19 #[.agg #[.int .u64 a0, .int .u64 a1, .int .u64 a2, .int .u64 a3], .agg #[.int .u64 b0, .int .u64 b1, .int .u64 b2, .int .u64 b3]] W fun e w' => e = .returned (.agg #[.int .u64 p0, .int .u64 p1, .int .u64 p2, .int .u64 p3]) ∧ Below W.heap.size W w') (w : World) :
    Calls Tryz.prog 140 #[.agg #[.int .u64 a0, .int .u64 a1, .int .u64 a2, .int .u64 a3], .agg #[.int .u64 b0, .int .u64 b1, .int .u64 b2, .int .u64 b3], .agg #[.int .u64 c0, .int .u64 c1, .int .u64 c2, .int .u64 c3]] w fun e w' => e = .returned (.agg #[.int .u64 p0, .int .u64 p1, .int .u64 p2, .int .u64 p3]) ∧ Below w.heap.size w w' := by
  have HX : Hid _ := X
  clear X
  go_enter Tryz.func140, Tryz.ntmps140
  go_upto_region 1 with fail
  have K0 : Hid (Bx w [(w.heap.size + 1 + 1 + 1, 0, 0, 0, 0), (w.heap.size + 1 + 1, c0, c1, c2, c3), (w.heap.size + 1, b0, b1, b2, b3), (w.heap.size, a0, a1, a2, a3)] ((((w.alloc (.cells #[.int .u64 a0, .int .u64 a1, .int .u64 a2, .int .u64 a3] 24)).alloc (.cells #[.int .u64 b0, .int .u64 b1, .int .u64 b2, .int .u64 b3] 24)).alloc (.cells #[.int .u64 c0, .int .u64 c1, .int .u64 c2, .int .u64 c3] 24)).alloc (.cells #[.int .u64 0, .int .u64 0, .int .u64 0, .int .u64 0] 24))) := by
    have h := ((((Bx.start w).alloc a0 a1 a2 a3).alloc b0 b1 b2 b3).alloc c0 c1 c2 c3).alloc 0 0 0 0
    (try simp only [World.size_alloc] at h)
    exact h
  generalize ((((w.alloc (.cells #[.int .u64 a0, .int .u64 a1, .int .u64 a2, .int .u64 a3] 24)).alloc (.cells #[.int .u64 b0, .int .u64 b1, .int .u64 b2, .int .u64 b3] 24)).alloc (.cells #[.int .u64 c0, .int .u64 c1, .int .u64 c2, .int .u64 c3] 24)).alloc (.cells #[.int .u64 0, .int .u64 0, .int .u64 0, .int .u64 0] 24)) = W0 at K0 ⊢
  obtain ⟨ka0, ka1, ka2, ka3, _⟩ := K0.out.f0 mm3
  obtain ⟨kb0, kb1, kb2, kb3, _⟩ := K0.out.f0 mm2
  go_wp2_with (go_at_call 19; refine (HX.out _).mono ?_; rintro e x9 ⟨rfl, hB⟩; (have K9 : Hid _ := K0.out.past hB); clear hB K0 ka0 ka1 ka2 ka3 kb0 kb1 kb2 kb3; obtain ⟨r0, r1, r2, r3, f0, f1, f2, f3⟩ := K9.out.f0 mm0)
  exact bodyPost_ret (v := .agg #[.int .u64 p0, .int .u64 p1, .int .u64 p2, .int .u64 p3]) (by simp [results, Tryz.results140, go_sem, r0, r1, r2, r3]) rfl ⟨rfl, below_put K9.out.bel (by omega) _ _ _ _⟩
set_option maxHeartbeats 4000000 in
set_option maxRecDepth 100000 in
theorem deed_7 (a0 a1 a2 a3 b0 b1 b2 b3 c0 c1 c2 c3 p0 p1 p2 p3 : Int) (X : ∀ W : World, Calls Tryz.prog 24 #[.agg #[.int .u64 a0, .int .u64 a1, .int .u64 a2, .int .u64 a3], .agg #[.int .u64 b0, .int .u64 b1, .int .u64 b2, .int .u64 b3]] W fun e w' => e = .returned (.agg #[.int .u64 p0, .int .u64 p1, .int .u64 p2, .int .u64 p3]) ∧ Below W.heap.size W w') (w : World) :
    Calls Tryz.prog 141 #[.agg #[.int .u64 a0, .int .u64 a1, .int .u64 a2, .int .u64 a3], .agg #[.int .u64 b0, .int .u64 b1, .int .u64 b2, .int .u64 b3], .agg #[.int .u64 c0, .int .u64 c1, .int .u64 c2, .int .u64 c3]] w fun e w' => e = .returned (.agg #[.int .u64 p0, .int .u64 p1, .int .u64 p2, .int .u64 p3]) ∧ Below w.heap.size w w' := by
  have HX : Hid _ := X
  clear X
  go_enter Tryz.func141, Tryz.ntmps141
  go_upto_region 1 with fail
  have K0 : Hid (Bx w [(w.heap.size + 1 + 1 + 1, 0, 0, 0, 0), (w.heap.size + 1 + 1, c0, c1, c2, c3), (w.heap.size + 1, b0, b1, b2, b3), (w.heap.size, a0, a1, a2, a3)] ((((w.alloc (.cells #[.int .u64 a0, .int .u64 a1, .int .u64 a2, .int .u64 a3] 24)).alloc (.cells #[.int .u64 b0, .int .u64 b1, .int .u64 b2, .int .u64 b3] 24)).alloc (.cells #[.int .u64 c0, .int .u64 c1, .int .u64 c2, .int .u64 c3] 24)).alloc (.cells #[.int .u64 0, .int .u64 0, .int .u64 0, .int .u64 0] 24))) := by
    have h := ((((Bx.start w).alloc a0 a1 a2 a3).alloc b0 b1 b2 b3).alloc c0 c1 c2 c3).alloc 0 0 0 0
    (try simp only [World.size_alloc] at h)
    exact h
  generalize ((((w.alloc (.cells #[.int .u64 a0, .int .u64 a1, .int .u64 a2, .int .u64 a3] 24)).alloc (.cells #[.int .u64 b0, .int .u64 b1, .int .u64 b2, .int .u64 b3] 24)).alloc (.cells #[.int .u64 c0, .int .u64 c1, .int .u64 c2, .int .u64 c3] 24)).alloc (.cells #[.int .u64 0, .int .u64 0, .int .u64 0, .int .u64 0] 24)) = W0 at K0 ⊢
  obtain ⟨ka0, ka1, ka2, ka3, _⟩ := K0.out.f0 mm3
  obtain ⟨kb0, kb1, kb2, kb3, _⟩ := K0.out.f0 mm2
  go_wp2_with (go_at_call 24; refine (HX.out _).mono ?_; rintro e x9 ⟨rfl, hB⟩; (have K9 : Hid _ := K0.out.past hB); clear hB K0 ka0 ka1 ka2 ka3 kb0 kb1 kb2 kb3; obtain ⟨r0, r1, r2, r3, f0, f1, f2, f3⟩ := K9.out.f0 mm0)
  exact bodyPost_ret (v := .agg #[.int .u64 p0, .int .u64 p1, .int .u64 p2, .int .u64 p3]) (by simp [results, Tryz.results141, go_sem, r0, r1, r2, r3]) rfl ⟨rfl, below_put K9.out.bel (by omega) _ _ _ _⟩
set_option maxHeartbeats 4000000 in
set_option maxRecDepth 100000 in
theorem deed_8 (a0 a1 a2 a3 b0 b1 b2 b3 c0 c1 c2 c3 p0 p1 p2 p3 : Int) (X : ∀ W : World, Calls Tryz.prog 34 #[.agg #[.int .u64 a0, .int .u64 a1, .int .u64 a2, .int .u64 a3], .agg #[.int .u64 b0, .int .u64 b1, .int .u64 b2, .int .u64 b3], .agg #[.int .u64 c0, .int .u64 c1, .int .u64 c2, .int .u64 c3]] W fun e w' => e = .returned (.agg #[.int .u64 p0, .int .u64 p1, .int .u64 p2, .int .u64 p3]) ∧ Below W.heap.size W w') (w : World) :
    Calls Tryz.prog 142 #[.agg #[.int .u64 a0, .int .u64 a1, .int .u64 a2, .int .u64 a3], .agg #[.int .u64 b0, .int .u64 b1, .int .u64 b2, .int .u64 b3], .agg #[.int .u64 c0, .int .u64 c1, .int .u64 c2, .int .u64 c3]] w fun e w' => e = .returned (.agg #[.int .u64 p0, .int .u64 p1, .int .u64 p2, .int .u64 p3]) ∧ Below w.heap.size w w' := by
  have HX : Hid _ := X
  clear X
  go_enter Tryz.func142, Tryz.ntmps142
  go_upto_region 1 with fail
  have K0 : Hid (Bx w [(w.heap.size + 1 + 1 + 1, 0, 0, 0, 0), (w.heap.size + 1 + 1, c0, c1, c2, c3), (w.heap.size + 1, b0, b1, b2, b3), (w.heap.size, a0, a1, a2, a3)] ((((w.alloc (.cells #[.int .u64 a0, .int .u64 a1, .int .u64 a2, .int .u64 a3] 24)).alloc (.cells #[.int .u64 b0, .int .u64 b1, .int .u64 b2, .int .u64 b3] 24)).alloc (.cells #[.int .u64 c0, .int .u64 c1, .int .u64 c2, .int .u64 c3] 24)).alloc (.cells #[.int .u64 0, .int .u64 0, .int .u64 0, .int .u64 0] 24))) := by
    have h := ((((Bx.start w).alloc a0 a1 a2 a3).alloc b0 b1 b2 b3).alloc c0 c1 c2 c3).alloc 0 0 0 0
    (try simp only [World.size_alloc] at h)
    exact h
  generalize ((((w.alloc (.cells #[.int .u64 a0, .int .u64 a1, .int .u64 a2, .int .u64 a3] 24)).alloc (.cells #[.int .u64 b0, .int .u64 b1, .int .u64 b2, .int .u64 b3] 24)).alloc (.cells #[.int .u64 c0, .int .u64 c1, .int .u64 c2, .int .u64 c3] 24)).alloc (.cells #[.int .u64 0, .int .u64 0, .int .u64 0, .int .u64 0] 24)) = W0 at K0 ⊢
  obtain ⟨ka0, ka1, ka2, ka3, _⟩ := K0.out.f0 mm3
  obtain ⟨kb0, kb1, kb2, kb3, _⟩ := K0.out.f0 mm2
  obtain ⟨kc0, kc1, kc2, kc3, _⟩ := K0.out.f0 mm1
  go_wp2_with (go_at_call 34; refine (HX.out _).mono ?_; rintro e x9 ⟨rfl, hB⟩; (have K9 : Hid _ := K0.out.past hB); clear hB K0 ka0 ka1 ka2 ka3 kb0 kb1 kb2 kb3 kc0 kc1 kc2 kc3; obtain ⟨r0, r1, r2, r3, f0, f1, f2, f3⟩ := K9.out.f0 mm0)
  exact bodyPost_ret (v := .agg #[.int .u64 p0, .int .u64 p1, .int .u64 p2, .int .u64 p3]) (by simp [results, Tryz.results142, go_sem, r0, r1, r2, r3]) rfl ⟨rfl, below_put K9.out.bel (by omega) _ _ _ _⟩
set_option maxHeartbeats 4000000 in
set_option maxRecDepth 100000 in
theorem deed_9 (a0 a1 a2 a3 b0 b1 b2 b3 c0 c1 c2 c3 p0 p1 p2 p3 : Int) (X : ∀ W : World, Calls Tryz.prog 36 #[.agg #[.int .u64 a0, .int .u64 a1, .int .u64 a2, .int .u64 a3], .agg #[.int .u64 b0, .int .u64 b1, .int .u64 b2, .int .u64 b3], .agg #[.int .u64 c0, .int .u64 c1, .int .u64 c2, .int .u64 c3]] W fun e w' => e = .returned (.agg #[.int .u64 p0, .int .u64 p1, .int .u64 p2, .int .u64 p3]) ∧ Below W.heap.size W w') (w : World) :
    Calls Tryz.prog 143 #[.agg #[.int .u64 a0, .int .u64 a1, .int .u64 a2, .int .u64 a3], .agg #[.int .u64 b0, .int .u64 b1, .int .u64 b2, .int .u64 b3], .agg #[.int .u64 c0, .int .u64 c1, .int .u64 c2, .int .u64 c3]] w fun e w' => e = .returned (.agg #[.int .u64 p0, .int .u64 p1, .int .u64 p2, .int .u64 p3]) ∧ Below w.heap.size w w' := by
  have HX : Hid _ := X
  clear X
  go_enter Tryz.func143, Tryz.ntmps143
  go_upto_region 1 with fail
  have K0 : Hid (Bx w [(w.heap.size + 1 + 1 + 1, 0, 0, 0, 0), (w.heap.size + 1 + 1, c0, c1, c2, c3), (w.heap.size + 1, b0, b1, b2, b3), (w.heap.size, a0, a1, a2, a3)] ((((w.alloc (.cells #[.int .u64 a0, .int .u64 a1, .int .u64 a2, .int .u64 a3] 24)).alloc (.cells #[.int .u64 b0, .int .u64 b1, .int .u64 b2, .int .u64 b3] 24)).alloc (.cells #[.int .u64 c0, .int .u64 c1, .int .u64 c2, .int .u64 c3] 24)).alloc (.cells #[.int .u64 0, .int .u64 0, .int .u64 0, .int .u64 0] 24))) := by
    have h := ((((Bx.start w).alloc a0 a1 a2 a3).alloc b0 b1 b2 b3).alloc c0 c1 c2 c3).alloc 0 0 0 0
    (try simp only [World.size_alloc] at h)
    exact h
  generalize ((((w.alloc (.cells #[.int .u64 a0, .int .u64 a1, .int .u64 a2, .int .u64 a3] 24)).alloc (.cells #[.int .u64 b0, .int .u64 b1, .int .u64 b2, .int .u64 b3] 24)).alloc (.cells #[.int .u64 c0, .int .u64 c1, .int .u64 c2, .int .u64 c3] 24)).alloc (.cells #[.int .u64 0, .int .u64 0, .int .u64 0, .int .u64 0] 24)) = W0 at K0 ⊢
  obtain ⟨ka0, ka1, ka2, ka3, _⟩ := K0.out.f0 mm3
  obtain ⟨kb0, kb1, kb2, kb3, _⟩ := K0.out.f0 mm2
  obtain ⟨kc0, kc1, kc2, kc3, _⟩ := K0.out.f0 mm1
  go_wp2_with (go_at_call 36; refine (HX.out _).mono ?_; rintro e x9 ⟨rfl, hB⟩; (have K9 : Hid _ := K0.out.past hB); clear hB K0 ka0 ka1 ka2 ka3 kb0 kb1 kb2 kb3 kc0 kc1 kc2 kc3; obtain ⟨r0, r1, r2, r3, f0, f1, f2, f3⟩ := K9.out.f0 mm0)
  exact bodyPost_ret (v := .agg #[.int .u64 p0, .int .u64 p1, .int .u64 p2, .int .u64 p3]) (by simp [results, Tryz.results143, go_sem, r0, r1, r2, r3]) rfl ⟨rfl, below_put K9.out.bel (by omega) _ _ _ _⟩
set_option maxHeartbeats 4000000 in
set_option maxRecDepth 100000 in
theorem deed_10 (a0 a1 a2 a3 b0 b1 b2 b3 c0 c1 c2 c3 p0 p1 p2 p3 : Int) (X : ∀ W : World, Calls Tryz.prog 145 #[.agg #[.int .u64 a0, .int .u64 a1, .int .u64 a2, .int .u64 a3], .agg #[.int .u64 b0, .int .u64 b1, .int .u64 b2, .int .u64 b3]] W fun e w' => e = .returned (.agg #[.int .u64 p0, .int .u64 p1, .int .u64 p2, .int .u64 p3]) ∧ Below W.heap.size W w') (w : World) :
    Calls Tryz.prog 144 #[.agg #[.int .u64 a0, .int .u64 a1, .int .u64 a2, .int .u64 a3], .agg #[.int .u64 b0, .int .u64 b1, .int .u64 b2, .int .u64 b3], .agg #[.int .u64 c0, .int .u64 c1, .int .u64 c2, .int .u64 c3]] w fun e w' => e = .returned (.agg #[.int .u64 p0, .int .u64 p1, .int .u64 p2, .int .u64 p3]) ∧ Below w.heap.size w w' := by
  have HX : Hid _ := X
  clear X
  go_enter Tryz.func144, Tryz.ntmps144
  go_upto_region 1 with fail
  have K0 : Hid (Bx w [(w.heap.size + 1 + 1 + 1, 0, 0, 0, 0), (w.heap.size + 1 + 1, c0, c1, c2, c3), (w.heap.size + 1, b0, b1, b2, b3), (w.heap.size, a0, a1, a2, a3)] ((((w.alloc (.cells #[.int .u64 a0, .int .u64 a1, .int .u64 a2, .int .u64 a3] 24)).alloc (.cells #[.int .u64 b0, .int .u64 b1, .int .u64 b2, .int .u64 b3] 24)).alloc (.cells #[.int .u64 c0, .int .u64 c1, .int .u64 c2, .int .u64 c3] 24)).alloc (.cells #[.int .u64 0, .int .u64 0, .int .u64 0, .int .u64 0] 24))) := by
    have h := ((((Bx.start w).alloc a0 a1 a2 a3).alloc b0 b1 b2 b3).alloc c0 c1 c2 c3).alloc 0 0 0 0
    (try simp only [World.size_alloc] at h)
    exact h
  generalize ((((w.alloc (.cells #[.int .u64 a0, .int .u64 a1, .int .u64 a2, .int .u64 a3] 24)).alloc (.cells #[.int .u64 b0, .int .u64 b1, .int .u64 b2, .int .u64 b3] 24)).alloc (.cells #[.int .u64 c0, .int .u64 c1, .int .u64 c2, .int .u64 c3] 24)).alloc (.cells #[.int .u64 0, .int .u64 0, .int .u64 0, .int .u64 0] 24)) = W0 at K0 ⊢
  obtain ⟨ka0, ka1, ka2, ka3, _⟩ := K0.out.f0 mm3
  obtain ⟨kb0, kb1, kb2, kb3, _⟩ := K0.out.f0 mm2
  go_wp2_with (go_at_call 145; refine (HX.out _).mono ?_; rintro e x9 ⟨rfl, hB⟩; (have K9 : Hid _ := K0.out.past hB); clear hB K0 ka0 ka1 ka2 ka3 kb0 kb1 kb2 kb3; obtain ⟨r0, r1, r2, r3, f0, f1, f2, f3⟩ := K9.out.f0 mm0)
  exact bodyPost_ret (v := .agg #[.int .u64 p0, .int .u64 p1, .int .u64 p2, .int .u64 p3]) (by simp [results, Tryz.results144, go_sem, r0, r1, r2, r3]) rfl ⟨rfl, below_put K9.out.bel (by omega) _ _ _ _⟩
set_option maxHeartbeats 4000000 in
set_option maxRecDepth 100000 in
theorem deed_11 (a0 a1 a2 a3 b0 b1 b2 b3 c0 c1 c2 c3 p0 p1 p2 p3 : Int) (X : ∀ W : World, Calls Tryz.prog 32 #[.agg #[.int .u64 a0, .int .u64 a1, .int .u64 a2, .int .u64 a3], .agg #[.int .u64 b0, .int .u64 b1, .int .u64 b2, .int .u64 b3]] W fun e w' => e = .returned (.agg #[.int .u64 p0, .int .u64 p1, .int .u64 p2, .int .u64 p3]) ∧ Below W.heap.size W w') (w : World) :
    Calls Tryz.prog 146 #[.agg #[.int .u64 a0, .int .u64 a1, .int .u64 a2, .int .u64 a3], .agg #[.int .u64 b0, .int .u64 b1, .int .u64 b2, .int .u64 b3], .agg #[.int .u64 c0, .int .u64 c1, .int .u64 c2, .int .u64 c3]] w fun e w' => e = .returned (.agg #[.int .u64 p0, .int .u64 p1, .int .u64 p2, .int .u64 p3]) ∧ Below w.heap.size w w' := by
  have HX : Hid _ := X
  clear X
  go_enter Tryz.func146, Tryz.ntmps146
  go_upto_region 1 with fail
  have K0 : Hid (Bx w [(w.heap.size + 1 + 1 + 1, 0, 0, 0, 0), (w.heap.size + 1 + 1, c0, c1, c2, c3), (w.heap.size + 1, b0, b1, b2, b3), (w.heap.size, a0, a1, a2, a3)] ((((w.alloc (.cells #[.int .u64 a0, .int .u64 a1, .int .u64 a2, .int .u64 a3] 24)).alloc (.cells #[.int .u64 b0, .int .u64 b1, .int .u64 b2, .int .u64 b3] 24)).alloc (.cells #[.int .u64 c0, .int .u64 c1, .int .u64 c2, .int .u64 c3] 24)).alloc (.cells #[.int .u64 0, .int .u64 0, .int .u64 0, .int .u64 0] 24))) := by
    have h := ((((Bx.start w).alloc a0 a1 a2 a3).alloc b0 b1 b2 b3).alloc c0 c1 c2 c3).alloc 0 0 0 0
    (try simp only [World.size_alloc] at h)
    exact h
  generalize ((((w.alloc (.cells #[.int .u64 a0, .int .u64 a1, .int .u64 a2, .int .u64 a3] 24)).alloc (.cells #[.int .u64 b0, .int .u64 b1, .int .u64 b2, .int .u64 b3] 24)).alloc (.cells #[.int .u64 c0, .int .u64 c1, .int .u64 c2, .int .u64 c3] 24)).alloc (.cells #[.int .u64 0, .int .u64 0, .int .u64 0, .int .u64 0] 24)) = W0 at K0 ⊢
  obtain ⟨ka0, ka1, ka2, ka3, _⟩ := K0.out.f0 mm3
  obtain ⟨kb0, kb1, kb2, kb3, _⟩ := K0.out.f0 mm2
  go_wp2_with (go_at_call 32; refine (HX.out _).mono ?_; rintro e x9 ⟨rfl, hB⟩; (have K9 : Hid _ := K0.out.past hB); clear hB K0 ka0 ka1 ka2 ka3 kb0 kb1 kb2 kb3; obtain ⟨r0, r1, r2, r3, f0, f1, f2, f3⟩ := K9.out.f0 mm0)
  exact bodyPost_ret (v := .agg #[.int .u64 p0, .int .u64 p1, .int .u64 p2, .int .u64 p3]) (by simp [results, Tryz.results146, go_sem, r0, r1, r2, r3]) rfl ⟨rfl, below_put K9.out.bel (by omega) _ _ _ _⟩
set_option maxHeartbeats 4000000 in
set_option maxRecDepth 100000 in
theorem deed_16 (a0 a1 a2 a3 b0 b1 b2 b3 c0 c1 c2 c3 p0 p1 p2 p3 : Int) (r : Bool) (X : ∀ W : World, Calls Tryz.prog 96 #[.agg #[.int .u64 a0, .int .u64 a1, .int .u64 a2, .int .u64 a3], .agg #[.int .u64 b0, .int .u64 b1, .int .u64 b2, .int .u64 b3]] W fun e w' => e = .returned (.bool r) ∧ Below W.heap.size W w') (TR : ∀ W : World, Calls Tryz.prog 148 #[.bool r] W fun e w' => e = .returned (.agg #[.int .u64 p0, .int .u64 p1, .int .u64 p2, .int .u64 p3]) ∧ Below W.heap.size W w') (w : World) :
    Calls Tryz.prog 147 #[.agg #[.int .u64 a0, .int .u64 a1, .int .u64 a2, .int .u64 a3], .agg #[.int .u64 b0, .int .u64 b1, .int .u64 b2, .int .u64 b3], .agg #[.int .u64 c0, .int .u64 c1, .int .u64 c2, .int .u64 c3]] w fun e w' => e = .returned (.agg #[.int .u64 p0, .int .u64 p1, .int .u64 p2, .int .u64 p3]) ∧ Below w.heap.size w w' := by
  have HX : Hid _ := X
  have HTR : Hid _ := TR
  clear X TR
  go_enter Tryz.func147, Tryz.ntmps147
  go_upto_region 1 with fail
  have K0 : Hid (Bx w [(w.heap.size + 1 + 1 + 1, 0, 0, 0, 0), (w.heap.size + 1 + 1, c0, c1, c2, c3), (w.heap.size + 1, b0, b1, b2, b3), (w.heap.size, a0, a1, a2, a3)] ((((w.alloc (.cells #[.int .u64 a0, .int .u64 a1, .int .u64 a2, .int .u64 a3] 24)).alloc (.cells #[.int .u64 b0, .int .u64 b1, .int .u64 b2, .int .u64 b3] 24)).alloc (.cells #[.int .u64 c0, .int .u64 c1, .int .u64 c2, .int .u64 c3] 24)).alloc (.cells #[.int .u64 0, .int .u64 0, .int .u64 0, .int .u64 0] 24))) := by
    have h := ((((Bx.start w).alloc a0 a1 a2 a3).alloc b0 b1 b2 b3).alloc c0 c1 c2 c3).alloc 0 0 0 0
    (try simp only [World.size_alloc] at h)
    exact h
  generalize ((((w.alloc (.cells #[.int .u64 a0, .int .u64 a1, .int .u64 a2, .int .u64 a3] 24)).alloc (.cells #[.int .u64 b0, .int .u64 b1, .int .u64 b2, .int .u64 b3] 24)).alloc (.cells #[.int .u64 c0, .int .u64 c1, .int .u64 c2, .int .u64 c3] 24)).alloc (.cells #[.int .u64 0, .int .u64 0, .int .u64 0, .int .u64 0] 24)) = W0 at K0 ⊢
  obtain ⟨ka0, ka1, ka2, ka3, _⟩ := K0.out.f0 mm3
  obtain ⟨kb0, kb1, kb2, kb3, _⟩ := K0.out.f0 mm2
  go_wp2_with (first | (go_at_call 96; refine (HX.out _).mono ?_; rintro e x8 ⟨rfl, hB⟩; (have K8 : Hid _ := K0.out.past hB); clear hB K0 ka0 ka1 ka2 ka3 kb0 kb1 kb2 kb3) | (go_at_call 148; refine (HTR.out _).mono ?_; rintro e x9 ⟨rfl, hB⟩; (have K9 : Hid _ := K8.out.past hB); clear hB K8; obtain ⟨r0, r1, r2, r3, f0, f1, f2, f3⟩ := K9.out.f0 mm0))
  exact bodyPost_ret (v := .agg #[.int .u64 p0, .int .u64 p1, .int .u64 p2, .int .u64 p3]) (by simp [results, Tryz.results147, go_sem, r0, r1, r2, r3]) rfl ⟨rfl, below_put K9.out.bel (by omega) _ _ _ _⟩
set_option maxHeartbeats 4000000 in
set_option maxRecDepth 100000 in
theorem deed_17 (a0 a1 a2 a3 b0 b1 b2 b3 c0 c1 c2 c3 p0 p1 p2 p3 : Int) (r : Bool) (X : ∀ W : World, Calls Tryz.prog 99 #[.agg #[.int .u64 a0, .int .u64 a1, .int .u64 a2, .int .u64 a3], .agg #[.int .u64 b0, .int .u64 b1, .int .u64 b2, .int .u64 b3]] W fun e w' => e = .returned (.bool r) ∧ Below W.heap.size W w') (TR : ∀ W : World, Calls Tryz.prog 148 #[.bool r] W fun e w' => e = .returned (.agg #[.int .u64 p0, .int .u64 p1, .int .u64 p2, .int .u64 p3]) ∧ Below W.heap.size W w') (w : World) :
    Calls Tryz.prog 149 #[.agg #[.int .u64 a0, .int .u64 a1, .int .u64 a2, .int .u64 a3], .agg #[.int .u64 b0, .int .u64 b1, .int .u64 b2, .int .u64 b3], .agg #[.int .u64 c0, .int .u64 c1, .int .u64 c2, .int .u64 c3]] w fun e w' => e = .returned (.agg #[.int .u64 p0, .int .u64 p1, .int .u64 p2, .int .u64 p3]) ∧ Below w.heap.size w w' := by
  have HX : Hid _ := X
  have HTR : Hid _ := TR
  clear X TR
  go_enter Tryz.func149, Tryz.ntmps149
  go_upto_region 1 with fail
  have K0 : Hid (Bx w [(w.heap.size + 1 + 1 + 1, 0, 0, 0, 0), (w.heap.size + 1 + 1, c0, c1, c2, c3), (w.heap.size + 1, b0, b1, b2, b3), (w.heap.size, a0, a1, a2, a3)] ((((w.alloc (.cells #[.int .u64 a0, .int .u64 a1, .int .u64 a2, .int .u64 a3] 24)).alloc (.cells #[.int .u64 b0, .int .u64 b1, .int .u64 b2, .int .u64 b3] 24)).alloc (.cells #[.int .u64 c0, .int .u64 c1, .int .u64 c2, .int .u64 c3] 24)).alloc (.cells #[.int .u64 0, .int .u64 0, .int .u64 0, .int .u64 0] 24))) := by
    have h := ((((Bx.start w).alloc a0 a1 a2 a3).alloc b0 b1 b2 b3).alloc c0 c1 c2 c3).alloc 0 0 0 0
    (try simp only [World.size_alloc] at h)
    exact h
  generalize ((((w.alloc (.cells #[.int .u64 a0, .int .u64 a1, .int .u64 a2, .int .u64 a3] 24)).alloc (.cells #[.int .u64 b0, .int .u64 b1, .int .u64 b2, .int .u64 b3] 24)).alloc (.cells #[.int .u64 c0, .int .u64 c1, .int .u64 c2, .int .u64 c3] 24)).alloc (.cells #[.int .u64 0, .int .u64 0, .int .u64 0, .int .u64 0] 24)) = W0 at K0 ⊢
  obtain ⟨ka0, ka1, ka2, ka3, _⟩ := K0.out.f0 mm3
  obtain ⟨kb0, kb1, kb2, kb3, _⟩ := K0.out.f0 mm2
  go_wp2_with (first | (go_at_call 99; refine (HX.out _).mono ?_; rintro e x8 ⟨rfl, hB⟩; (have K8 : Hid _ := K0.out.past hB); clear hB K0 ka0 ka1 ka2 ka3 kb0 kb1 kb2 kb3) | (go_at_call 148; refine (HTR.out _).mono ?_; rintro e x9 ⟨rfl, hB⟩; (have K9 : Hid _ := K8.out.past hB); clear hB K8; obtain ⟨r0, r1, r2, r3, f0, f1, f2, f3⟩ := K9.out.f0 mm0))
  exact bodyPost_ret (v := .agg #[.int .u64 p0, .int .u64 p1, .int .u64 p2, .int .u64 p3]) (by simp [results, Tryz.results149, go_sem, r0, r1, r2, r3]) rfl ⟨rfl, below_put K9.out.bel (by omega) _ _ _ _⟩
set_option maxHeartbeats 4000000 in
set_option maxRecDepth 100000 in
theorem deed_18 (a0 a1 a2 a3 b0 b1 b2 b3 c0 c1 c2 c3 p0 p1 p2 p3 : Int) (r : Bool) (X : ∀ W : World, Calls Tryz.prog 26 #[.agg #[.int .u64 a0, .int .u64 a1, .int .u64 a2, .int .u64 a3], .agg #[.int .u64 b0, .int .u64 b1, .int .u64 b2, .int .u64 b3]] W fun e w' => e = .returned (.bool r) ∧ Below W.heap.size W w') (TR : ∀ W : World, Calls Tryz.prog 148 #[.bool r] W fun e w' => e = .returned (.agg #[.int .u64 p0, .int .u64 p1, .int .u64 p2, .int .u64 p3]) ∧ Below W.heap.size W w') (w : World) :
    Calls Tryz.prog 150 #[.agg #[.int .u64 a0, .int .u64 a1, .int .u64 a2, .int .u64 a3], .agg #[.int .u64 b0, .int .u64 b1, .int .u64 b2, .int .u64 b3], .agg #[.int .u64 c0, .int .u64 c1, .int .u64 c2, .int .u64 c3]] w fun e w' => e = .returned (.agg #[.int .u64 p0, .int .u64 p1, .int .u64 p2, .int .u64 p3]) ∧ Below w.heap.size w w' := by
  have HX : Hid _ := X
  have HTR : Hid _ := TR
  clear X TR
  go_enter Tryz.func150, Tryz.ntmps150
  go_upto_region 1 with fail
  have K0 : Hid (Bx w [(w.heap.size + 1 + 1 + 1, 0, 0, 0, 0), (w.heap.size + 1 + 1, c0, c1, c2, c3), (w.heap.size + 1, b0, b1, b2, b3), (w.heap.size, a0, a1, a2, a3)] ((((w.alloc (.cells #[.int .u64 a0, .int .u64 a1, .int .u64 a2, .int .u64 a3] 24)).alloc (.cells #[.int .u64 b0, .int .u64 b1, .int .u64 b2, .int .u64 b3] 24)).alloc (.cells #[.int .u64 c0, .int .u64 c1, .int .u64 c2, .int .u64 c3] 24)).alloc (.cells #[.int .u64 0, .int .u64 0, .int .u64 0, .int .u64 0] 24))) := by
    have h := ((((Bx.start w).alloc a0 a1 a2 a3).alloc b0 b1 b2 b3).alloc c0 c1 c2 c3).alloc 0 0 0 0
    (try simp only [World.size_alloc] at h)
    exact h
  generalize ((((w.alloc (.cells #[.int .u64 a0, .int .u64 a1, .int .u64 a2, .int .u64 a3] 24)).alloc (.cells #[.int .u64 b0, .int .u64 b1, .int .u64 b2, .int .u64 b3] 24)).alloc (.cells #[.int .u64 c0, .int .u64 c1, .int .u64 c2, .int .u64 c3] 24)).alloc (.cells #[.int .u64 0, .int .u64 0, .int .u64 0, .int .u64 0] 24)) = W0 at K0 ⊢
  obtain ⟨ka0, ka1, ka2, ka3, _⟩ := K0.out.f0 mm3
  obtain ⟨kb0, kb1, kb2, kb3, _⟩ := K0.out.f0 mm2
  go_wp2_with (first | (go_at_call 26; refine (HX.out _).mono ?_; rintro e x8 ⟨rfl, hB⟩; (have K8 : Hid _ := K0.out.past hB); clear hB K0 ka0 ka1 ka2 ka3 kb0 kb1 kb2 kb3) | (go_at_call 148; refine (HTR.out _).mono ?_; rintro e x9 ⟨rfl, hB⟩; (have K9 : Hid _ := K8.out.past hB); clear hB K8; obtain ⟨r0, r1, r2, r3, f0, f1, f2, f3⟩ := K9.out.f0 mm0))
  exact bodyPost_ret (v := .agg #[.int .u64 p0, .int .u64 p1, .int .u64 p2, .int .u64 p3]) (by simp [results, Tryz.results150, go_sem, r0, r1, r2, r3]) rfl ⟨rfl, below_put K9.out.bel (by omega) _ _ _ _⟩
set_option maxHeartbeats 4000000 in
set_option maxRecDepth 100000 in
theorem deed_19 (a0 a1 a2 a3 b0 b1 b2 b3 c0 c1 c2 c3 p0 p1 p2 p3 : Int) (r : Bool) (X : ∀ W : World, Calls Tryz.prog 28 #[.agg #[.int .u64 a0, .int .u64 a1, .int .u64 a2, .int .u64 a3], .agg #[.int .u64 b0, .int .u64 b1, .int .u64 b2, .int .u64 b3]] W fun e w' => e = .returned (.bool r) ∧ Below W.heap.size W w') (TR : ∀ W : World, Calls Tryz.prog 148 #[.bool r] W fun e w' => e = .returned (.agg #[.int .u64 p0, .int .u64 p1, .int .u64 p2, .int .u64 p3]) ∧ Below W.heap.size W w') (w : World) :
    Calls Tryz.prog 151 #[.agg #[.int .u64 a0, .int .u64 a1, .int .u64 a2, .int .u64 a3], .agg #[.int .u64 b0, .int .u64 b1, .int .u64 b2, .int .u64 b3], .agg #[.int .u64 c0, .int .u64 c1, .int .u64 c2, .int .u64 c3]] w fun e w' => e = .returned (.agg #[.int .u64 p0, .int .u64 p1, .int .u64 p2, .int .u64 p3]) ∧ Below w.heap.size w w' := by
  have HX : Hid _ := X
  have HTR : Hid _ := TR
  clear X TR
  go_enter Tryz.func151, Tryz.ntmps151
  go_upto_region 1 with fail
  have K0 : Hid (Bx w [(w.heap.size + 1 + 1 + 1, 0, 0, 0, 0), (w.heap.size + 1 + 1, c0, c1, c2, c3), (w.heap.size + 1, b0, b1, b2, b3), (w.heap.size, a0, a1, a2, a3)] ((((w.alloc (.cells #[.int .u64 a0, .int .u64 a1, .int .u64 a2, .int .u64 a3] 24)).alloc (.cells #[.int .u64 b0, .int .u64 b1, .int .u64 b2, .int .u64 b3] 24)).alloc (.cells #[.int .u64 c0, .int .u64 c1, .int .u64 c2, .int .u64 c3] 24)).alloc (.cells #[.int .u64 0, .int .u64 0, .int .u64 0, .int .u64 0] 24))) := by
    have h := ((((Bx.start w).alloc a0 a1 a2 a3).alloc b0 b1 b2 b3).alloc c0 c1 c2 c3).alloc 0 0 0 0
    (try simp only [World.size_alloc] at h)
    exact h
  generalize ((((w.alloc (.cells #[.int .u64 a0, .int .u64 a1, .int .u64 a2, .int .u64 a3] 24)).alloc (.cells #[.int .u64 b0, .int .u64 b1, .int .u64 b2, .int .u64 b3] 24)).alloc (.cells #[.int .u64 c0, .int .u64 c1, .int .u64 c2, .int .u64 c3] 24)).alloc (.cells #[.int .u64 0, .int .u64 0, .int .u64 0, .int .u64 0] 24)) = W0 at K0 ⊢
  obtain ⟨ka0, ka1, ka2, ka3, _⟩ := K0.out.f0 mm3
  obtain ⟨kb0, kb1, kb2, kb3, _⟩ := K0.out.f0 mm2
  go_wp2_with (first | (go_at_call 28; refine (HX.out _).mono ?_; rintro e x8 ⟨rfl, hB⟩; (have K8 : Hid _ := K0.out.past hB); clear hB K0 ka0 ka1 ka2 ka3 kb0 kb1 kb2 kb3) | (go_at_call 148; refine (HTR.out _).mono ?_; rintro e x9 ⟨rfl, hB⟩; (have K9 : Hid _ := K8.out.past hB); clear hB K8; obtain ⟨r0, r1, r2, r3, f0, f1, f2, f3⟩ := K9.out.f0 mm0))
  exact bodyPost_ret (v := .agg #[.int .u64 p0, .int .u64 p1, .int .u64 p2, .int .u64 p3]) (by simp [results, Tryz.results151, go_sem, r0, r1, r2, r3]) rfl ⟨rfl, below_put K9.out.bel (by omega) _ _ _ _⟩
set_option maxHeartbeats 4000000 in
set_option maxRecDepth 100000 in
theorem deed_20 (a0 a1 a2 a3 b0 b1 b2 b3 c0 c1 c2 c3 p0 p1 p2 p3 : Int) (r : Bool) (X : ∀ W : World, Calls Tryz.prog 153 #[.agg #[.int .u64 a0, .int .u64 a1, .int .u64 a2, .int .u64 a3], .agg #[.int .u64 b0, .int .u64 b1, .int .u64 b2, .int .u64 b3]] W fun e w' => e = .returned (.bool r) ∧ Below W.heap.size W w') (TR : ∀ W : World, Calls Tryz.prog 148 #[.bool r] W fun e w' => e = .returned (.agg #[.int .u64 p0, .int .u64 p1, .int .u64 p2, .int .u64 p3]) ∧ Below W.heap.size W w') (w : World) :
    Calls Tryz.prog 152 #[.agg #[.int .u64 a0, .int .u64 a1, .int .u64 a2, .int .u64 a3], .agg #[.int .u64 b0, .int .u64 b1, .int .u64 b2, .int .u64 b3], .agg #[.int .u64 c0, .int .u64 c1, .int .u64 c2, .int .u64 c3]] w fun e w' => e = .returned (.agg #[.int .u64 p0, .int .u64 p1, .int .u64 p2, .int .u64 p3]) ∧ Below w.heap.size w w' := by
  have HX : Hid _ := X
  have HTR : Hid _ := TR
  clear X TR
  go_enter Tryz.func152, Tryz.ntmps152
  go_upto_region 1 with fail
  have K0 : Hid (Bx w [(w.heap.size + 1 + 1 + 1, 0, 0, 0, 0), (w.heap.size + 1 + 1, c0, c1, c2, c3), (w.heap.size + 1, b0, b1, b2, b3), (w.heap.size, a0, a1, a2, a3)] ((((w.alloc (.cells #[.int .u64 a0, .int .u64 a1, .int .u64 a2, .int .u64 a3] 24)).alloc (.cells #[.int .u64 b0, .int .u64 b1, .int .u64 b2, .int .u64 b3] 24)).alloc (.cells #[.int .u64 c0, .int .u64 c1, .int .u64 c2, .int .u64 c3] 24)).alloc (.cells #[.int .u64 0, .int .u64 0, .int .u64 0, .int .u64 0] 24))) := by
    have h := ((((Bx.start w).alloc a0 a1 a2 a3).alloc b0 b1 b2 b3).alloc c0 c1 c2 c3).alloc 0 0 0 0
    (try simp only [World.size_alloc] at h)
    exact h
  generalize ((((w.alloc (.cells #[.int .u64 a0, .int .u64 a1, .int .u64 a2, .int .u64 a3] 24)).alloc (.cells #[.int .u64 b0, .int .u64 b1, .int .u64 b2, .int .u64 b3] 24)).alloc (.cells #[.int .u64 c0, .int .u64 c1, .int .u64 c2, .int .u64 c3] 24)).alloc (.cells #[.int .u64 0, .int .u64 0, .int .u64 0, .int .u64 0] 24)) = W0 at K0 ⊢
  obtain ⟨ka0, ka1, ka2, ka3, _⟩ := K0.out.f0 mm3
  obtain ⟨kb0, kb1, kb2, kb3, _⟩ := K0.out.f0 mm2
  go_wp2_with (first | (go_at_call 153; refine (HX.out _).mono ?_; rintro e x8 ⟨rfl, hB⟩; (have K8 : Hid _ := K0.out.past hB); clear hB K0 ka0 ka1 ka2 ka3 kb0 kb1 kb2 kb3) | (go_at_call 148; refine (HTR.out _).mono ?_; rintro e x9 ⟨rfl, hB⟩; (have K9 : Hid _ := K8.out.past hB); clear hB K8; obtain ⟨r0, r1, r2, r3, f0, f1, f2, f3⟩ := K9.out.f0 mm0))
  exact bodyPost_ret (v := .agg #[.int .u64 p0, .int .u64 p1, .int .u64 p2, .int .u64 p3]) (by simp [results, Tryz.results152, go_sem, r0, r1, r2, r3]) rfl ⟨rfl, below_put K9.out.bel (by omega) _ _ _ _⟩
set_option maxHeartbeats 4000000 in
set_option maxRecDepth 100000 in
theorem deed_21 (a0 a1 a2 a3 b0 b1 b2 b3 c0 c1 c2 c3 p0 p1 p2 p3 : Int) (r : Bool) (X : ∀ W : World, Calls Tryz.prog 155 #[.agg #[.int .u64 a0, .int .u64 a1, .int .u64 a2, .int .u64 a3]] W fun e w' => e = .returned (.bool r) ∧ Below W.heap.size W w') (TR : ∀ W : World, Calls Tryz.prog 148 #[.bool r] W fun e w' => e = .returned (.agg #[.int .u64 p0, .int .u64 p1, .int .u64 p2, .int .u64 p3]) ∧ Below W.heap.size W w') (w : World) :
    Calls Tryz.prog 154 #[.agg #[.int .u64 a0, .int .u64 a1, .int .u64 a2, .int .u64 a3], .agg #[.int .u64 b0, .int .u64 b1, .int .u64 b2, .int .u64 b3], .agg #[.int .u64 c0, .int .u64 c1, .int .u64 c2, .int .u64 c3]] w fun e w' => e = .returned (.agg #[.int .u64 p0, .int .u64 p1, .int .u64 p2, .int .u64 p3]) ∧ Below w.heap.size w w' := by
  have HX : Hid _ := X
  have HTR : Hid _ := TR
  clear X TR
  go_enter Tryz.func154, Tryz.ntmps154
  go_upto_region 1 with fail
  have K0 : Hid (Bx w [(w.heap.size + 1 + 1 + 1, 0, 0, 0, 0), (w.heap.size + 1 + 1, c0, c1, c2, c3), (w.heap.size + 1, b0, b1, b2, b3), (w.heap.size, a0, a1, a2, a3)] ((((w.alloc (.cells #[.int .u64 a0, .int .u64 a1, .int .u64 a2, .int .u64 a3] 24)).alloc (.cells #[.int .u64 b0, .int .u64 b1, .int .u64 b2, .int .u64 b3] 24)).alloc (.cells #[.int .u64 c0, .int .u64 c1, .int .u64 c2, .int .u64 c3] 24)).alloc (.cells #[.int .u64 0, .int .u64 0, .int .u64 0, .int .u64 0] 24))) := by
    have h := ((((Bx.start w).alloc a0 a1 a2 a3).alloc b0 b1 b2 b3).alloc c0 c1 c2 c3).alloc 0 0 0 0
    (try simp only [World.size_alloc] at h)
    exact h
  generalize ((((w.alloc (.cells #[.int .u64 a0, .int .u64 a1, .int .u64 a2, .int .u64 a3] 24)).alloc (.cells #[.int .u64 b0, .int .u64 b1, .int .u64 b2, .int .u64 b3] 24)).alloc (.cells #[.int .u64 c0, .int .u64 c1, .int .u64 c2, .int .u64 c3] 24)).alloc (.cells #[.int .u64 0, .int .u64 0, .int .u64 0, .int .u64 0] 24)) = W0 at K0 ⊢
  obtain ⟨ka0, ka1, ka2, ka3, _⟩ := K0.out.f0 mm3
  go_wp2_with (first | (go_at_call 155; refine (HX.out _).mono ?_; rintro e x8 ⟨rfl, hB⟩; (have K8 : Hid _ := K0.out.past hB); clear hB K0 ka0 ka1 ka2 ka3) | (go_at_call 148; refine (HTR.out _).mono ?_; rintro e x9 ⟨rfl, hB⟩; (have K9 : Hid _ := K8.out.past hB); clear hB K8; obtain ⟨r0, r1, r2, r3, f0, f1, f2, f3⟩ := K9.out.f0 mm0))
  exact bodyPost_ret (v := .agg #[.int .u64 p0, .int .u64 p1, .int .u64 p2, .int .u64 p3]) (by simp [results, Tryz.results154, go_sem, r0, r1, r2, r3]) rfl ⟨rfl, below_put K9.out.bel (by omega) _ _ _ _⟩
set_option maxHeartbeats 4000000 in
set_option maxRecDepth 100000 in
theorem deed_22 (a0 a1 a2 a3 b0 b1 b2 b3 c0 c1 c2 c3 p0 p1 p2 p3 : Int) (X : ∀ W : World, Calls Tryz.prog 38 #[.agg #[.int .u64 a0, .int .u64 a1, .int .u64 a2, .int .u64 a3], .agg #[.int .u64 b0, .int .u64 b1, .int .u64 b2, .int .u64 b3]] W fun e w' => e = .returned (.agg #[.int .u64 p0, .int .u64 p1, .int .u64 p2, .int .u64 p3]) ∧ Below W.heap.size W w') (w : World) :
    Calls Tryz.prog 156 #[.agg #[.int .u64 a0, .int .u64 a1, .int .u64 a2, .int .u64 a3], .agg #[.int .u64 b0, .int .u64 b1, .int .u64 b2, .int .u64 b3], .agg #[.int .u64 c0, .int .u64 c1, .int .u64 c2, .int .u64 c3]] w fun e w' => e = .returned (.agg #[.int .u64 p0, .int .u64 p1, .int .u64 p2, .int .u64 p3]) ∧ Below w.heap.size w w' := by
  have HX : Hid _ := X
  clear X
  go_enter Tryz.func156, Tryz.ntmps156
  go_upto_region 1 with fail
  have K0 : Hid (Bx w [(w.heap.size + 1 + 1 + 1, 0, 0, 0, 0), (w.heap.size + 1 + 1, c0, c1, c2, c3), (w.heap.size + 1, b0, b1, b2, b3), (w.heap.size, a0, a1, a2, a3)] ((((w.alloc (.cells #[.int .u64 a0, .int .u64 a1, .int .u64 a2, .int .u64 a3] 24)).alloc (.cells #[.int .u64 b0, .int .u64 b1, .int .u64 b2, .int .u64 b3] 24)).alloc (.cells #[.int .u64 c0, .int .u64 c1, .int .u64 c2, .int .u64 c3] 24)).alloc (.cells #[.int .u64 0, .int .u64 0, .int .u64 0, .int .u64 0] 24))) := by
    have h := ((((Bx.start w).alloc a0 a1 a2 a3).alloc b0 b1 b2 b3).alloc c0 c1 c2 c3).alloc 0 0 0 0
    (try simp only [World.size_alloc] at h)
    exact h
  generalize ((((w.alloc (.cells #[.int .u64 a0, .int .u64 a1, .int .u64 a2, .int .u64 a3] 24)).alloc (.cells #[.int .u64 b0, .int .u64 b1, .int .u64 b2, .int .u64 b3] 24)).alloc (.cells #[.int .u64 c0, .int .u64 c1, .int .u64 c2, .int .u64 c3] 24)).alloc (.cells #[.int .u64 0, .int .u64 0, .int .u64 0, .int .u64 0] 24)) = W0 at K0 ⊢
  obtain ⟨ka0, ka1, ka2, ka3, _⟩ := K0.out.f0 mm3
  obtain ⟨kb0, kb1, kb2, kb3, _⟩ := K0.out.f0 mm2
  go_wp2_with (go_at_call 38; refine (HX.out _).mono ?_; rintro e x9 ⟨rfl, hB⟩; (have K9 : Hid _ := K0.out.past hB); clear hB K0 ka0 ka1 ka2 ka3 kb0 kb1 kb2 kb3; obtain ⟨r0, r1, r2, r3, f0, f1, f2, f3⟩ := K9.out.f0 mm0)
  exact bodyPost_ret (v := .agg #[.int .u64 p0, .int .u64 p1, .int .u64 p2, .int .u64 p3]) (by simp [results, Tryz.results156, go_sem, r0, r1, r2, r3]) rfl ⟨rfl, below_put K9.out.bel (by omega) _ _ _ _⟩
set_option maxHeartbeats 4000000 in
set_option maxRecDepth 100000 in
theorem deed_23 (a0 a1 a2 a3 b0 b1 b2 b3 c0 c1 c2 c3 p0 p1 p2 p3 : Int) (X : ∀ W : World, Calls Tryz.prog 40 #[.agg #[.int .u64 a0, .int .u64 a1, .int .u64 a2, .int .u64 a3], .agg #[.int .u64 b0, .int .u64 b1, .int .u64 b2, .int .u64 b3]] W fun e w' => e = .returned (.agg #[.int .u64 p0, .int .u64 p1, .int .u64 p2, .int .u64 p3]) ∧ Below W.heap.size W w') (w : World) :
    Calls Tryz.prog 157 #[.agg #[.int .u64 a0, .int .u64 a1, .int .u64 a2, .int .u64 a3], .agg #[.int .u64 b0, .int .u64 b1, .int .u64 b2, .int .u64 b3], .agg #[.int .u64 c0, .int .u64 c1, .int .u64 c2, .int .u64 c3]] w fun e w' => e = .returned (.agg #[.int .u64 p0, .int .u64 p1, .int .u64 p2, .int .u64 p3]) ∧ Below w.heap.size w w' := by
  have HX : Hid _ := X
  clear X
  go_enter Tryz.func157, Tryz.ntmps157
  go_upto_region 1 with fail
  have K0 : Hid (Bx w [(w.heap.size + 1 + 1 + 1, 0, 0, 0, 0), (w.heap.size + 1 + 1, c0, c1, c2, c3), (w.heap.size + 1, b0, b1, b2, b3), (w.heap.size, a0, a1, a2, a3)] ((((w.alloc (.cells #[.int .u64 a0, .int .u64 a1, .int .u64 a2, .int .u64 a3] 24)).alloc (.cells #[.int .u64 b0, .int .u64 b1, .int .u64 b2, .int .u64 b3] 24)).alloc (.cells #[.int .u64 c0, .int .u64 c1, .int .u64 c2, .int .u64 c3] 24)).alloc (.cells #[.int .u64 0, .int .u64 0, .int .u64 0, .int .u64 0] 24))) := by
    have h := ((((Bx.start w).alloc a0 a1 a2 a3).alloc b0 b1 b2 b3).alloc c0 c1 c2 c3).alloc 0 0 0 0
    (try simp only [World.size_alloc] at h)
    exact h
  generalize ((((w.alloc (.cells #[.int .u64 a0, .int .u64 a1, .int .u64 a2, .int .u64 a3] 24)).alloc (.cells #[.int .u64 b0, .int .u64 b1, .int .u64 b2, .int .u64 b3] 24)).alloc (.cells #[.int .u64 c0, .int .u64 c1, .int .u64 c2, .int .u64 c3] 24)).alloc (.cells #[.int .u64 0, .int .u64 0, .int .u64 0, .int .u64 0] 24)) = W0 at K0 ⊢
  obtain ⟨ka0, ka1, ka2, ka3, _⟩ := K0.out.f0 mm3
  obtain ⟨kb0, kb1, kb2, kb3, _⟩ := K0.out.f0 mm2
  go_wp2_with (go_at_call 40; refine (HX.out _).mono ?_; rintro e x9 ⟨rfl, hB⟩; (have K9 : Hid _ := K0.out.past hB); clear hB K0 ka0 ka1 ka2 ka3 kb0 kb1 kb2 kb3; obtain ⟨r0, r1, r2, r3, f0, f1, f2, f3⟩ := K9.out.f0 mm0)
  exact bodyPost_ret (v := .agg #[.int .u64 p0, .int .u64 p1, .int .u64 p2, .int .u64 p3]) (by simp [results, Tryz.results157, go_sem, r0, r1, r2, r3]) rfl ⟨rfl, below_put K9.out.bel (by omega) _ _ _ _⟩
set_option maxHeartbeats 4000000 in
set_option maxRecDepth 100000 in
theorem deed_24 (a0 a1 a2 a3 b0 b1 b2 b3 c0 c1 c2 c3 p0 p1 p2 p3 : Int) (X : ∀ W : World, Calls Tryz.prog 42 #[.agg #[.int .u64 a0, .int .u64 a1, .int .u64 a2, .int .u64 a3], .agg #[.int .u64 b0, .int .u64 b1, .int .u64 b2, .int .u64 b3]] W fun e w' => e = .returned (.agg #[.int .u64 p0, .int .u64 p1, .int .u64 p2, .int .u64 p3]) ∧ Below W.heap.size W w') (w : World) :
    Calls Tryz.prog 158 #[.agg #[.int .u64 a0, .int .u64 a1, .int .u64 a2, .int .u64 a3], .agg #[.int .u64 b0, .int .u64 b1, .int .u64 b2, .int .u64 b3], .agg #[.int .u64 c0, .int .u64 c1, .int .u64 c2, .int .u64 c3]] w fun e w' => e = .returned (.agg #[.int .u64 p0, .int .u64 p1, .int .u64 p2, .int .u64 p3]) ∧ Below w.heap.size w w' := by
  have HX : Hid _ := X
  clear X
  go_enter Tryz.func158, Tryz.ntmps158
  go_upto_region 1 with fail
  have K0 : Hid (Bx w [(w.heap.size + 1 + 1 + 1, 0, 0, 0, 0), (w.heap.size + 1 + 1, c0, c1, c2, c3), (w.heap.size + 1, b0, b1, b2, b3), (w.heap.size, a0, a1, a2, a3)] ((((w.alloc (.cells #[.int .u64 a0, .int .u64 a1, .int .u64 a2, .int .u64 a3] 24)).alloc (.cells #[.int .u64 b0, .int .u64 b1, .int .u64 b2, .int .u64 b3] 24)).alloc (.cells #[.int .u64 c0, .int .u64 c1, .int .u64 c2, .int .u64 c3] 24)).alloc (.cells #[.int .u64 0, .int .u64 0, .int .u64 0, .int .u64 0] 24))) := by
    have h := ((((Bx.start w).alloc a0 a1 a2 a3).alloc b0 b1 b2 b3).alloc c0 c1 c2 c3).alloc 0 0 0 0
    (try simp only [World.size_alloc] at h)
    exact h
  generalize ((((w.alloc (.cells #[.int .u64 a0, .int .u64 a1, .int .u64 a2, .int .u64 a3] 24)).alloc (.cells #[.int .u64 b0, .int .u64 b1, .int .u64 b2, .int .u64 b3] 24)).alloc (.cells #[.int .u64 c0, .int .u64 c1, .int .u64 c2, .int .u64 c3] 24)).alloc (.cells #[.int .u64 0, .int .u64 0, .int .u64 0, .int .u64 0] 24)) = W0 at K0 ⊢
  obtain ⟨ka0, ka1, ka2, ka3, _⟩ := K0.out.f0 mm3
  obtain ⟨kb0, kb1, kb2, kb3, _⟩ := K0.out.f0 mm2
  go_wp2_with (go_at_call 42; refine (HX.out _).mono ?_; rintro e x9 ⟨rfl, hB⟩; (have K9 : Hid _ := K0.out.past hB); clear hB K0 ka0 ka1 ka2 ka3 kb0 kb1 kb2 kb3; obtain ⟨r0, r1, r2, r3, f0, f1, f2, f3⟩ := K9.out.f0 mm0)
  exact bodyPost_ret (v := .agg #[.int .u64 p0, .int .u64 p1, .int .u64 p2, .int .u64 p3]) (by simp [results, Tryz.results158, go_sem, r0, r1, r2, r3]) rfl ⟨rfl, below_put K9.out.bel (by omega) _ _ _ _⟩
set_option maxHeartbeats 4000000 in
set_option maxRecDepth 100000 in
theorem deed_25 (a0 a1 a2 a3 b0 b1 b2 b3 c0 c1 c2 c3 p0 p1 p2 p3 : Int) (X : ∀ W : World, Calls Tryz.prog 44 #[.agg #[.int .u64 a0, .int .u64 a1, .int .u64 a2, .int .u64 a3]] W fun e w' => e = .returned (.agg #[.int .u64 p0, .int .u64 p1, .int .u64 p2, .int .u64 p3]) ∧ Below W.heap.size W w') (w : World) :
    Calls Tryz.prog 159 #[.agg #[.int .u64 a0, .int .u64 a1, .int .u64 a2, .int .u64 a3], .agg #[.int .u64 b0, .int .u64 b1, .int .u64 b2, .int .u64 b3], .agg #[.int .u64 c0, .int .u64 c1, .int .u64 c2, .int .u64 c3]] w fun e w' => e = .returned (.agg #[.int .u64 p0, .int .u64 p1, .int .u64 p2, .int .u64 p3]) ∧ Below w.heap.size w w' := by
  have HX : Hid _ := X
  clear X
  go_enter Tryz.func159, Tryz.ntmps159
  go_upto_region 1 with fail
  have K0 : Hid (Bx w [(w.heap.size + 1 + 1 + 1, 0, 0, 0, 0), (w.heap.size + 1 + 1, c0, c1, c2, c3), (w.heap.size + 1, b0, b1, b2, b3), (w.heap.size, a0, a1, a2, a3)] ((((w.alloc (.cells #[.int .u64 a0, .int .u64 a1, .int .u64 a2, .int .u64 a3] 24)).alloc (.cells #[.int .u64 b0, .int .u64 b1, .int .u64 b2, .int .u64 b3] 24)).alloc (.cells #[.int .u64 c0, .int .u64 c1, .int .u64 c2, .int .u64 c3] 24)).alloc (.cells #[.int .u64 0, .int .u64 0, .int .u64 0, .int .u64 0] 24))) := by
    have h := ((((Bx.start w).alloc a0 a1 a2 a3).alloc b0 b1 b2 b3).alloc c0 c1 c2 c3).alloc 0 0 0 0
    (try simp only [World.size_alloc] at h)
    exact h
  generalize ((((w.alloc (.cells #[.int .u64 a0, .int .u64 a1, .int .u64 a2, .int .u64 a3] 24)).alloc (.cells #[.int .u64 b0, .int .u64 b1, .int .u64 b2, .int .u64 b3] 24)).alloc (.cells #[.int .u64 c0, .int .u64 c1, .int .u64 c2, .int .u64 c3] 24)).alloc (.cells #[.int .u64 0, .int .u64 0, .int .u64 0, .int .u64 0] 24)) = W0 at K0 ⊢
  obtain ⟨ka0, ka1, ka2, ka3, _⟩ := K0.out.f0 mm3
  go_wp2_with (go_at_call 44; refine (HX.out _).mono ?_; rintro e x9 ⟨rfl, hB⟩; (have K9 : Hid _ := K0.out.past hB); clear hB K0 ka0 ka1 ka2 ka3; obtain ⟨r0, r1, r2, r3, f0, f1, f2, f3⟩ := K9.out.f0 mm0)
  exact bodyPost_ret (v := .agg #[.int .u64 p0, .int .u64 p1, .int .u64 p2, .int .u64 p3]) (by simp [results, Tryz.results159, go_sem, r0, r1, r2, r3]) rfl ⟨rfl, below_put K9.out.bel (by omega) _ _ _ _⟩
set_option maxHeartbeats 4000000 in
set_option maxRecDepth 100000 in
theorem deed_26 (a0 a1 a2 a3 b0 b1 b2 b3 c0 c1 c2 c3 p0 p1 p2 p3 : Int) (X : ∀ W : World, Calls Tryz.prog 46 #[.agg #[.int .u64 a0, .int .u64 a1, .int .u64 a2, .int .u64 a3], .agg #[.int .u64 b0, .int .u64 b1, .int .u64 b2, .int .u64 b3]] W fun e w' => e = .returned (.agg #[.int .u64 p0, .int .u64 p1, .int .u64 p2, .int .u64 p3]) ∧ Below W.heap.size W w') (w : World) :
    Calls Tryz.prog 160 #[.agg #[.int .u64 a0, .int .u64 a1, .int .u64 a2, .int .u64 a3], .agg #[.int .u64 b0, .int .u64 b1, .int .u64 b2, .int .u64 b3], .agg #[.int .u64 c0, .int .u64 c1, .int .u64 c2, .int .u64 c3]] w fun e w' => e = .returned (.agg #[.int .u64 p0, .int .u64 p1, .int .u64 p2, .int .u64 p3]) ∧ Below w.heap.size w w' := by
  have HX : Hid _ := X
  clear X
  go_enter Tryz.func160, Tryz.ntmps160
  go_upto_region 1 with fail
  have K0 : Hid (Bx w [(w.heap.size + 1 + 1 + 1, 0, 0, 0, 0), (w.heap.size + 1 + 1, c0, c1, c2, c3), (w.heap.size + 1, b0, b1, b2, b3), (w.heap.size, a0, a1, a2, a3)] ((((w.alloc (.cells #[.int .u64 a0, .int .u64 a1, .int .u64 a2, .int .u64 a3] 24)).alloc (.cells #[.int .u64 b0, .int .u64 b1, .int .u64 b2, .int .u64 b3] 24)).alloc (.cells #[.int .u64 c0, .int .u64 c1, .int .u64 c2, .int .u64 c3] 24)).alloc (.cells #[.int .u64 0, .int .u64 0, .int .u64 0, .int .u64 0] 24))) := by
    have h := ((((Bx.start w).alloc a0 a1 a2 a3).alloc b0 b1 b2 b3).alloc c0 c1 c2 c3).alloc 0 0 0 0
    (try simp only [World.size_alloc] at h)
    exact h
  generalize ((((w.alloc (.cells #[.int .u64 a0, .int .u64 a1, .int .u64 a2, .int .u64 a3] 24)).alloc (.cells #[.int .u64 b0, .int .u64 b1, .int .u64 b2, .int .u64 b3] 24)).alloc (.cells #[.int .u64 c0, .int .u64 c1, .int .u64 c2, .int .u64 c3] 24)).alloc (.cells #[.int .u64 0, .int .u64 0, .int .u64 0, .int .u64 0] 24)) = W0 at K0 ⊢
  obtain ⟨ka0, ka1, ka2, ka3, _⟩ := K0.out.f0 mm3
  obtain ⟨kb0, kb1, kb2, kb3, _⟩ := K0.out.f0 mm2
  go_wp2_with (go_at_call 46; refine (HX.out _).mono ?_; rintro e x9 ⟨rfl, hB⟩; (have K9 : Hid _ := K0.out.past hB); clear hB K0 ka0 ka1 ka2 ka3 kb0 kb1 kb2 kb3; obtain ⟨r0, r1, r2, r3, f0, f1, f2, f3⟩ := K9.out.f0 mm0)
  exact bodyPost_ret (v := .agg #[.int .u64 p0, .int .u64 p1, .int .u64 p2, .int .u64 p3]) (by simp [results, Tryz.results160, go_sem, r0, r1, r2, r3]) rfl ⟨rfl, below_put K9.out.bel (by omega) _ _ _ _⟩
set_option maxHeartbeats 4000000 in
set_option maxRecDepth 100000 in
theorem deed_27 (a0 a1 a2 a3 b0 b1 b2 b3 c0 c1 c2 c3 p0 p1 p2 p3 : Int) (X : ∀ W : World, Calls Tryz.prog 48 #[.agg #[.int .u64 a0, .int .u64 a1, .int .u64 a2, .int .u64 a3], .agg #[.int .u64 b0, .int .u64 b1, .int .u64 b2, .int .u64 b3]] W fun e w' => e = .returned (.agg #[.int .u64 p0, .int .u64 p1, .int .u64 p2, .int .u64 p3]) ∧ Below W.heap.size W w') (w : World) :
    Calls Tryz.prog 161 #[.agg #[.int .u64 a0, .int .u64 a1, .int .u64 a2, .int .u64 a3], .agg #[.int .u64 b0, .int .u64 b1, .int .u64 b2, .int .u64 b3], .agg #[.int .u64 c0, .int .u64 c1, .int .u64 c2, .int .u64 c3]] w fun e w' => e = .returned (.agg #[.int .u64 p0, .int .u64 p1, .int .u64 p2, .int .u64 p3]) ∧ Below w.heap.size w w' := by
  have HX : Hid _ := X
  clear X
  go_enter Tryz.func161, Tryz.ntmps161
  go_upto_region 1 with fail
  have K0 : Hid (Bx w [(w.heap.size + 1 + 1 + 1, 0, 0, 0, 0), (w.heap.size + 1 + 1, c0, c1, c2, c3), (w.heap.size + 1, b0, b1, b2, b3), (w.heap.size, a0, a1, a2, a3)] ((((w.alloc (.cells #[.int .u64 a0, .int .u64 a1, .int .u64 a2, .int .u64 a3] 24)).alloc (.cells #[.int .u64 b0, .int .u64 b1, .int .u64 b2, .int .u64 b3] 24)).alloc (.cells #[.int .u64 c0, .int .u64 c1, .int .u64 c2, .int .u64 c3] 24)).alloc (.cells #[.int .u64 0, .int .u64 0, .int .u64 0, .int .u64 0] 24))) := by
    have h := ((((Bx.start w).alloc a0 a1 a2 a3).alloc b0 b1 b2 b3).alloc c0 c1 c2 c3).alloc 0 0 0 0
    (try simp only [World.size_alloc] at h)
    exact h
  generalize ((((w.alloc (.cells #[.int .u64 a0, .int .u64 a1, .int .u64 a2, .int .u64 a3] 24)).alloc (.cells #[.int .u64 b0, .int .u64 b1, .int .u64 b2, .int .u64 b3] 24)).alloc (.cells #[.int .u64 c0, .int .u64 c1, .int .u64 c2, .int .u64 c3] 24)).alloc (.cells #[.int .u64 0, .int .u64 0, .int .u64 0, .int .u64 0] 24)) = W0 at K0 ⊢
  obtain ⟨ka0, ka1, ka2, ka3, _⟩ := K0.out.f0 mm3
  obtain ⟨kb0, kb1, kb2, kb3, _⟩ := K0.out.f0 mm2
  go_wp2_with (go_at_call 48; refine (HX.out _).mono ?_; rintro e x9 ⟨rfl, hB⟩; (have K9 : Hid _ := K0.out.past hB); clear hB K0 ka0 ka1 ka2 ka3 kb0 kb1 kb2 kb3; obtain ⟨r0, r1, r2, r3, f0, f1, f2, f3⟩ := K9.out.f0 mm0)
  exact bodyPost_ret (v := .agg #[.int .u64 p0, .int .u64 p1, .int .u64 p2, .int .u64 p3]) (by simp [results, Tryz.results161, go_sem, r0, r1, r2, r3]) rfl ⟨rfl, below_put K9.out.bel (by omega) _ _ _ _⟩
set_option maxHeartbeats 4000000 in
set_option maxRecDepth 100000 in
theorem deed_28 (a0 a1 a2 a3 b0 b1 b2 b3 c0 c1 c2 c3 p0 p1 p2 p3 : Int) (X : ∀ W : World, Calls Tryz.prog 50 #[.agg #[.int .u64 a0, .int .u64 a1, .int .u64 a2, .int .u64 a3], .agg #[.int .u64 b0, .int .u64 b1, .int .u64 b2, .int .u64 b3]] W fun e w' => e = .returned (.agg #[.int .u64 p0, .int .u64 p1, .int .u64 p2, .int .u64 p3]) ∧ Below W.heap.size W w') (w : World) :
    Calls Tryz.prog 162 #[.agg #[.int .u64 a0, .int .u64 a1, .int .u64 a2, .int .u64 a3], .agg #[.int .u64 b0, .int .u64 b1, .int .u64 b2, .int .u64 b3], .agg #[.int .u64 c0, .int .u64 c1, .int .u64 c2, .int .u64 c3]] w fun e w' => e = .returned (.agg #[.int .u64 p0, .int .u64 p1, .int .u64 p2, .int .u64 p3]) ∧ Below w.heap.size w w' := by
  have HX : Hid _ := X
  clear X
  go_enter Tryz.func162, Tryz.ntmps162
  go_upto_region 1 with fail
  have K0 : Hid (Bx w [(w.heap.size + 1 + 1 + 1, 0, 0, 0, 0), (w.heap.size + 1 + 1, c0, c1, c2, c3), (w.heap.size + 1, b0, b1, b2, b3), (w.heap.size, a0, a1, a2, a3)] ((((w.alloc (.cells #[.int .u64 a0, .int .u64 a1, .int .u64 a2, .int .u64 a3] 24)).alloc (.cells #[.int .u64 b0, .int .u64 b1, .int .u64 b2, .int .u64 b3] 24)).alloc (.cells #[.int .u64 c0, .int .u64 c1, .int .u64 c2, .int .u64 c3] 24)).alloc (.cells #[.int .u64 0, .int .u64 0, .int .u64 0, .int .u64 0] 24))) := by
    have h := ((((Bx.start w).alloc a0 a1 a2 a3).alloc b0 b1 b2 b3).alloc c0 c1 c2 c3).alloc 0 0 0 0
    (try simp only [World.size_alloc] at h)
    exact h
  generalize ((((w.alloc (.cells #[.int .u64 a0, .int .u64 a1, .int .u64 a2, .int .u64 a3] 24)).alloc (.cells #[.int .u64 b0, .int .u64 b1, .int .u64 b2, .int .u64 b3] 24)).alloc (.cells #[.int .u64 c0, .int .u64 c1, .int .u64 c2, .int .u64 c3] 24)).alloc (.cells #[.int .u64 0, .int .u64 0, .int .u64 0, .int .u64 0] 24)) = W0 at K0 ⊢
  obtain ⟨ka0, ka1, ka2, ka3, _⟩ := K0.out.f0 mm3
  obtain ⟨kb0, kb1, kb2, kb3, _⟩ := K0.out.f0 mm2
  go_wp2_with (go_at_call 50; refine (HX.out _).mono ?_; rintro e x9 ⟨rfl, hB⟩; (have K9 : Hid _ := K0.out.past hB); clear hB K0 ka0 ka1 ka2 ka3 kb0 kb1 kb2 kb3; obtain ⟨r0, r1, r2, r3, f0, f1, f2, f3⟩ := K9.out.f0 mm0)
  exact bodyPost_ret (v := .agg #[.int .u64 p0, .int .u64 p1, .int .u64 p2, .int .u64 p3]) (by simp [results, Tryz.results162, go_sem, r0, r1, r2, r3]) rfl ⟨rfl, below_put K9.out.bel (by omega) _ _ _ _⟩
set_option maxHeartbeats 4000000 in
set_option maxRecDepth 100000 in
theorem deed_29 (a0 a1 a2 a3 b0 b1 b2 b3 c0 c1 c2 c3 p0 p1 p2 p3 : Int) (X : ∀ W : World, Calls Tryz.prog 30 #[.agg #[.int .u64 a0, .int .u64 a1, .int .u64 a2, .int .u64 a3], .agg #[.int .u64 b0, .int .u64 b1, .int .u64 b2, .int .u64 b3]] W fun e w' => e = .returned (.agg #[.int .u64 p0, .int .u64 p1, .int .u64 p2, .int .u64 p3]) ∧ Below W.heap.size W w') (w : World) :
    Calls Tryz.prog 163 #[.agg #[.int .u64 a0, .int .u64 a1, .int .u64 a2, .int .u64 a3], .agg #[.int .u64 b0, .int .u64 b1, .int .u64 b2, .int .u64 b3], .agg #[.int .u64 c0, .int .u64 c1, .int .u64 c2, .int .u64 c3]] w fun e w' => e = .returned (.agg #[.int .u64 p0, .int .u64 p1, .int .u64 p2, .int .u64 p3]) ∧ Below w.heap.size w w' := by
  have HX : Hid _ := X
  clear X
  go_enter Tryz.func163, Tryz.ntmps163
  go_upto_region 1 with fail
  have K0 : Hid (Bx w [(w.heap.size + 1 + 1 + 1, 0, 0, 0, 0), (w.heap.size + 1 + 1, c0, c1, c2, c3), (w.heap.size + 1, b0, b1, b2, b3), (w.heap.size, a0, a1, a2, a3)] ((((w.alloc (.cells #[.int .u64 a0, .int .u64 a1, .int .u64 a2, .int .u64 a3] 24)).alloc (.cells #[.int .u64 b0, .int .u64 b1, .int .u64 b2, .int .u64 b3] 24)).alloc (.cells #[.int .u64 c0, .int .u64 c1, .int .u64 c2, .int .u64 c3] 24)).alloc (.cells #[.int .u64 0, .int .u64 0, .int .u64 0, .int .u64 0] 24))) := by
    have h := ((((Bx.start w).alloc a0 a1 a2 a3).alloc b0 b1 b2 b3).alloc c0 c1 c2 c3).alloc 0 0 0 0
    (try simp only [World.size_alloc] at h)
    exact h
  generalize ((((w.alloc (.cells #[.int .u64 a0, .int .u64 a1, .int .u64 a2, .int .u64 a3] 24)).alloc (.cells #[.int .u64 b0, .int .u64 b1, .int .u64 b2, .int .u64 b3] 24)).alloc (.cells #[.int .u64 c0, .int .u64 c1, .int .u64 c2, .int .u64 c3] 24)).alloc (.cells #[.int .u64 0, .int .u64 0, .int .u64 0, .int .u64 0] 24)) = W0 at K0 ⊢
  obtain ⟨ka0, ka1, ka2, ka3, _⟩ := K0.out.f0 mm3
  obtain ⟨kb0, kb1, kb2, kb3, _⟩ := K0.out.f0 mm2
  go_wp2_with (go_at_call 30; refine (HX.out _).mono ?_; rintro e x9 ⟨rfl, hB⟩; (have K9 : Hid _ := K0.out.past hB); clear hB K0 ka0 ka1 ka2 ka3 kb0 kb1 kb2 kb3; obtain ⟨r0, r1, r2, r3, f0, f1, f2, f3⟩ := K9.out.f0 mm0)
  exact bodyPost_ret (v := .agg #[.int .u64 p0, .int .u64 p1, .int .u64 p2, .int .u64 p3]) (by simp [results, Tryz.results163, go_sem, r0, r1, r2, r3]) rfl ⟨rfl, below_put K9.out.bel (by omega) _ _ _ _⟩
set_option maxHeartbeats 4000000 in
set_option maxRecDepth 100000 in
theorem deed_30 (a0 a1 a2 a3 b0 b1 b2 b3 c0 c1 c2 c3 p0 p1 p2 p3 : Int) (X : ∀ W : World, Calls Tryz.prog 52 #[.agg #[.int .u64 a0, .int .u64 a1, .int .u64 a2, .int .u64 a3]] W fun e w' => e = .returned (.agg #[.int .u64 p0, .int .u64 p1, .int .u64 p2, .int .u64 p3]) ∧ Below W.heap.size W w') (w : World) :
    Calls Tryz.prog 164 #[.agg #[.int .u64 a0, .int .u64 a1, .int .u64 a2, .int .u64 a3], .agg #[.int .u64 b0, .int .u64 b1, .int .u64 b2, .int .u64 b3], .agg #[.int .u64 c0, .int .u64 c1, .int .u64 c2, .int .u64 c3]] w fun e w' => e = .returned (.agg #[.int .u64 p0, .int .u64 p1, .int .u64 p2, .int .u64 p3]) ∧ Below w.heap.size w w' := by
  have HX : Hid _ := X
  clear X
  go_enter Tryz.func164, Tryz.ntmps164
  go_upto_region 1 with fail
  have K0 : Hid (Bx w [(w.heap.size + 1 + 1 + 1, 0, 0, 0, 0), (w.heap.size + 1 + 1, c0, c1, c2, c3), (w.heap.size + 1, b0, b1, b2, b3), (w.heap.size, a0, a1, a2, a3)] ((((w.alloc (.cells #[.int .u64 a0, .int .u64 a1, .int .u64 a2, .int .u64 a3] 24)).alloc (.cells #[.int .u64 b0, .int .u64 b1, .int .u64 b2, .int .u64 b3] 24)).alloc (.cells #[.int .u64 c0, .int .u64 c1, .int .u64 c2, .int .u64 c3] 24)).alloc (.cells #[.int .u64 0, .int .u64 0, .int .u64 0, .int .u64 0] 24))) := by
    have h := ((((Bx.start w).alloc a0 a1 a2 a3).alloc b0 b1 b2 b3).alloc c0 c1 c2 c3).alloc 0 0 0 0
    (try simp only [World.size_alloc] at h)
    exact h
  generalize ((((w.alloc (.cells #[.int .u64 a0, .int .u64 a1, .int .u64 a2, .int .u64 a3] 24)).alloc (.cells #[.int .u64 b0, .int .u64 b1, .int .u64 b2, .int .u64 b3] 24)).alloc (.cells #[.int .u64 c0, .int .u64 c1, .int .u64 c2, .int .u64 c3] 24)).alloc (.cells #[.int .u64 0, .int .u64 0, .int .u64 0, .int .u64 0] 24)) = W0 at K0 ⊢
  obtain ⟨ka0, ka1, ka2, ka3, _⟩ := K0.out.f0 mm3
  go_wp2_with (go_at_call 52; refine (HX.out _).mono ?_; rintro e x9 ⟨rfl, hB⟩; (have K9 : Hid _ := K0.out.past hB); clear hB K0 ka0 ka1 ka2 ka3; obtain ⟨r0, r1, r2, r3, f0, f1, f2, f3⟩ := K9.out.f0 mm0)
  exact bodyPost_ret (v := .agg #[.int .u64 p0, .int .u64 p1, .int .u64 p2, .int .u64 p3]) (by simp [results, Tryz.results164, go_sem, r0, r1, r2, r3]) rfl ⟨rfl, below_put K9.out.bel (by omega) _ _ _ _⟩
set_option maxHeartbeats 4000000 in
set_option maxRecDepth 100000 in
theorem wtruth_t (w : World) : Calls Tryz.prog 148 #[.bool true] w fun e w' => e = .returned (.agg #[.int .u64 1, .int .u64 0, .int .u64 0, .int .u64 0]) ∧ Below w.heap.size w w' := by
  have K0 : Hid (Bx w [(w.heap.size, 0, 0, 0, 0)] (w.alloc (.cells #[.int .u64 0, .int .u64 0, .int .u64 0, .int .u64 0] 24))) := (Bx.start w).alloc 0 0 0 0
  go_enter Tryz.func148, Tryz.ntmps148
  go_upto_region 1 with fail
  generalize (w.alloc (.cells #[.int .u64 0, .int .u64 0, .int .u64 0, .int .u64 0] 24)) = W0 at K0 ⊢
  obtain ⟨r0, r1, r2, r3, f0, f1, f2, f3⟩ := K0.out.f0 mm0
  go_wp2
  exact bodyPost_ret (v := .agg #[.int .u64 1, .int .u64 0, .int .u64 0, .int .u64 0]) (by simp [results, Tryz.results148, go_sem, r0, r1, r2, r3]) rfl ⟨rfl, below_put K0.out.bel (by omega) _ _ _ _⟩
set_option maxHeartbeats 4000000 in
set_option maxRecDepth 100000 in
theorem wtruth_f (w : World) : Calls Tryz.prog 148 #[.bool false] w fun e w' => e = .returned (.agg #[.int .u64 0, .int .u64 0, .int .u64 0, .int .u64 0]) ∧ Below w.heap.size w w' := by
  have K0 : Hid (Bx w [(w.heap.size, 0, 0, 0, 0)] (w.alloc (.cells #[.int .u64 0, .int .u64 0, .int .u64 0, .int .u64 0] 24))) := (Bx.start w).alloc 0 0 0 0
  go_enter Tryz.func148, Tryz.ntmps148
  go_upto_region 1 with fail
  generalize (w.alloc (.cells #[.int .u64 0, .int .u64 0, .int .u64 0, .int .u64 0] 24)) = W0 at K0 ⊢
  obtain ⟨r0, r1, r2, r3, f0, f1, f2, f3⟩ := K0.out.f0 mm0
  go_wp2
  exact bodyPost_ret (v := .agg #[.int .u64 0, .int .u64 0, .int .u64 0, .int .u64 0]) (by simp [results, Tryz.results148, go_sem, r0, r1, r2, r3]) rfl ⟨rfl, below_put K0.out.bel (by omega) _ _ _ _⟩
set_option maxHeartbeats 4000000 in
set_option maxRecDepth 100000 in
theorem rtruth_t (w : World) : Calls Tryz.prog 165 #[.bool true] w fun e w' => e = .returned (.agg #[.int .u64 1, .int .u64 0, .int .u64 0, .int .u64 0]) ∧ Below w.heap.size w w' := by
  have K0 : Hid (Bx w [(w.heap.size, 0, 0, 0, 0)] (w.alloc (.cells #[.int .u64 0, .int .u64 0, .int .u64 0, .int .u64 0] 24))) := (Bx.start w).alloc 0 0 0 0
  go_enter Tryz.func165, Tryz.ntmps165
  go_upto_region 1 with fail
  generalize (w.alloc (.cells #[.int .u64 0, .int .u64 0, .int .u64 0, .int .u64 0] 24)) = W0 at K0 ⊢
  obtain ⟨r0, r1, r2, r3, f0, f1, f2, f3⟩ := K0.out.f0 mm0
  go_wp2
  exact bodyPost_ret (v := .agg #[.int .u64 1, .int .u64 0, .int .u64 0, .int .u64 0]) (by simp [results, Tryz.results165, go_sem, r0, r1, r2, r3]) rfl ⟨rfl, below_put K0.out.bel (by omega) _ _ _ _⟩
set_option maxHeartbeats 4000000 in
set_option maxRecDepth 100000 in
theorem rtruth_f (w : World) : Calls Tryz.prog 165 #[.bool false] w fun e w' => e = .returned (.agg #[.int .u64 0, .int .u64 0, .int .u64 0, .int .u64 0]) ∧ Below w.heap.size w w' := by
  have K0 : Hid (Bx w [(w.heap.size, 0, 0, 0, 0)] (w.alloc (.cells #[.int .u64 0, .int .u64 0, .int .u64 0, .int .u64 0] 24))) := (Bx.start w).alloc 0 0 0 0
  go_enter Tryz.func165, Tryz.ntmps165
  go_upto_region 1 with fail
  generalize (w.alloc (.cells #[.int .u64 0, .int .u64 0, .int .u64 0, .int .u64 0] 24)) = W0 at K0 ⊢
  obtain ⟨r0, r1, r2, r3, f0, f1, f2, f3⟩ := K0.out.f0 mm0
  go_wp2
  exact bodyPost_ret (v := .agg #[.int .u64 0, .int .u64 0, .int .u64 0, .int .u64 0]) (by simp [results, Tryz.results165, go_sem, r0, r1, r2, r3]) rfl ⟨rfl, below_put K0.out.bel (by omega) _ _ _ _⟩
end Go.Proofs.YtpadpmkfhljiiaaGreat
/- word.Do, by the table of its deeds. -/
namespace Go.Proofs.YtpadpmkfhljiiaaGreat
open Go.RowKit
theorem eqn_run (W : World) : (binOp .eql 92 .nilFunc .nilFunc).run Tryz.prog W = .ok (.bool true) W := by kernel_rfl
set_option maxHeartbeats 4000000 in
set_option maxRecDepth 100000 in
theorem do_n (a0 a1 a2 a3 b0 b1 b2 b3 c0 c1 c2 c3 p0 p1 p2 p3 : Int) (n f : Nat) (hn : n < 31) (hf : tbl[n]? = some (.func (.func f) #[] #[])) (CF : ∀ (args : Array Value) (W : World), Sem.run Tryz.prog (callFunc f args) W = .ok (.enter f args) W) (D : ∀ W : World, Calls Tryz.prog f #[.agg #[.int .u64 a0, .int .u64 a1, .int .u64 a2, .int .u64 a3], .agg #[.int .u64 b0, .int .u64 b1, .int .u64 b2, .int .u64 b3], .agg #[.int .u64 c0, .int .u64 c1, .int .u64 c2, .int .u64 c3]] W fun e w' => e = .returned (.agg #[.int .u64 p0, .int .u64 p1, .int .u64 p2, .int .u64 p3]) ∧ Below W.heap.size W w') (w : World) :
    Calls Tryz.prog 56 #[.int .i64 (n : Int), .agg #[.int .u64 a0, .int .u64 a1, .int .u64 a2, .int .u64 a3], .agg #[.int .u64 b0, .int .u64 b1, .int .u64 b2, .int .u64 b3], .agg #[.int .u64 c0, .int .u64 c1, .int .u64 c2, .int .u64 c3]] w fun e w' => e = .returned (.tuple #[.agg #[.int .u64 p0, .int .u64 p1, .int .u64 p2, .int .u64 p3], .bool true]) ∧ Below w.heap.size w w' := by
  have HD : Hid _ := D
  have HT : Hid (tbl[n]? = some (.func (.func f) #[] #[])) := hf
  have n0 : ¬ (n : Int) < 0 := by omega
  have n1 : ¬ (31 : Int) ≤ (n : Int) := by omega
  have n2 : (n : Int) < 31 := by omega
  have hq := eqf_run f
  have K0 : Hid (Bx w [(w.heap.size + 1 + 1 + 1, 0, 0, 0, 0), (w.heap.size + 1 + 1, c0, c1, c2, c3), (w.heap.size + 1, b0, b1, b2, b3), (w.heap.size, a0, a1, a2, a3)] ((((w.alloc (.cells #[.int .u64 a0, .int .u64 a1, .int .u64 a2, .int .u64 a3] 24)).alloc (.cells #[.int .u64 b0, .int .u64 b1, .int .u64 b2, .int .u64 b3] 24)).alloc (.cells #[.int .u64 c0, .int .u64 c1, .int .u64 c2, .int .u64 c3] 24)).alloc (.cells #[.int .u64 0, .int .u64 0, .int .u64 0, .int .u64 0] 24))) := by
    have h := ((((Bx.start w).alloc a0 a1 a2 a3).alloc b0 b1 b2 b3).alloc c0 c1 c2 c3).alloc 0 0 0 0
    (try simp only [World.size_alloc] at h)
    exact h
  clear D hf
  go_enter Tryz.func56, Tryz.ntmps56
  go_upto_region 1 with fail
  generalize ((((w.alloc (.cells #[.int .u64 a0, .int .u64 a1, .int .u64 a2, .int .u64 a3] 24)).alloc (.cells #[.int .u64 b0, .int .u64 b1, .int .u64 b2, .int .u64 b3] 24)).alloc (.cells #[.int .u64 c0, .int .u64 c1, .int .u64 c2, .int .u64 c3] 24)).alloc (.cells #[.int .u64 0, .int .u64 0, .int .u64 0, .int .u64 0] 24)) = W0 at K0 ⊢
  go_upto_region 2 with (first
    | (go_at_call 111; refine (deeds_any _).mono ?_; rintro e w1 ⟨rfl, hB⟩; (have K1 : Hid _ := K0.out.past hB); clear hB K0)
    | (refine store_tbl rfl _ _ rfl w1.heap.size rfl rfl (there_new w1 _ _) ?_; intro w2 hB hz2 hr2; change Hid _))
  have zt : w1.heap.size < w2.heap.size := by rw [hz2]; simp
  have zb : w.heap.size + 1 + 1 + 1 < w1.heap.size := K1.out.lt _ mm0
  have kt : w2.cell? ⟨w1.heap.size, n, none⟩ = some (.func (.func f) #[] #[]) := by have := hr2 n _ HT.out; simpa using this
  have K2 : Hid (Bx w [(w.heap.size + 1 + 1 + 1, 0, 0, 0, 0), (w.heap.size + 1 + 1, c0, c1, c2, c3), (w.heap.size + 1, b0, b1, b2, b3), (w.heap.size, a0, a1, a2, a3)] w2) := K1.out.past ((Below.alloc (Below.refl _ _) (Nat.le_refl _) _).trans hB)
  unfold Hid
  generalize w1.heap.size = bt at kt zt zb ⊢
  clear hB hz2 hr2 K1
  go_upto_region 4 with fail
  refine wp_region_held_drew (S := fun w' => Bx w [(w.heap.size + 1 + 1, c0, c1, c2, c3), (w.heap.size + 1, b0, b1, b2, b3), (w.heap.size, a0, a1, a2, a3)] w' ∧ w'.cell? ⟨bt, n, none⟩ = some (.func (.func f) #[] #[])) (by kernel_rfl) ⟨K2.out.drew.sub (fun p hp => List.Mem.tail _ hp), by simpa using kt⟩ (fun hS => ?_)
  have hK2 : Bx w [(w.heap.size + 1 + 1 + 1, 0, 0, 0, 0), (w.heap.size + 1 + 1, c0, c1, c2, c3), (w.heap.size + 1, b0, b1, b2, b3), (w.heap.size, a0, a1, a2, a3)] w2.drew := K2.out.drew
  have hct := hS.2
  generalize w2.drew = g1 at hK2 hS hct ⊢
  have lbt : bt < g1.heap.size := World.block_lt_of_cell? g1 _ hct
  clear kt zt K2
  refine wpAnyH_take (i := 0) (v := .int .i64 (n : Int)) op0 (by kernel_rfl) (by kernel_rfl) (by kernel_rfl) (fun _ _ _ h => h) (Or.inl ⟨by rfl, fun W hS => ?_⟩) hS ?_
  · go_simp
  simp only [Act.put, List.setIfInBounds_toArray, List.set_cons_zero, List.set_cons_succ]
  refine wpAnyH_take (i := 1) (v := .pointer (some ⟨bt, n, none⟩)) op1 (by kernel_rfl) (by kernel_rfl) (by kernel_rfl) (fun _ _ _ h => h) (Or.inl ⟨by rfl, fun W hS => ?_⟩) hS ?_
  · go_simp
  simp only [Act.put, List.setIfInBounds_toArray, List.set_cons_zero, List.set_cons_succ]
  refine wpAnyH_take (i := 2) (v := .func (.func f) #[] #[]) op2 (by kernel_rfl) (by kernel_rfl) (by kernel_rfl) (fun _ _ _ h => h) (Or.inl ⟨by rfl, fun W hS => ?_⟩) hS ?_
  · have c0 := hS.2
    go_simp
  simp only [Act.put, List.setIfInBounds_toArray, List.set_cons_zero, List.set_cons_succ]
  refine wpAnyH_take (i := 3) (v := .agg #[.int .u64 a0, .int .u64 a1, .int .u64 a2, .int .u64 a3]) op3 (by kernel_rfl) (by kernel_rfl) (by kernel_rfl) (fun _ _ _ h => h) (Or.inl ⟨by rfl, fun W hS => ?_⟩) hS ?_
  · obtain ⟨d0, d1, d2, d3, _⟩ := hS.1.f0 mm2
    go_simp
  simp only [Act.put, List.setIfInBounds_toArray, List.set_cons_zero, List.set_cons_succ]
  refine wpAnyH_take (i := 4) (v := .agg #[.int .u64 b0, .int .u64 b1, .int .u64 b2, .int .u64 b3]) op4 (by kernel_rfl) (by kernel_rfl) (by kernel_rfl) (fun _ _ _ h => h) (Or.inl ⟨by rfl, fun W hS => ?_⟩) hS ?_
  · obtain ⟨d0, d1, d2, d3, _⟩ := hS.1.f0 mm1
    go_simp
  simp only [Act.put, List.setIfInBounds_toArray, List.set_cons_zero, List.set_cons_succ]
  refine wpAnyH_take (i := 5) (v := .agg #[.int .u64 c0, .int .u64 c1, .int .u64 c2, .int .u64 c3]) op5 (by kernel_rfl) (by kernel_rfl) (by kernel_rfl) (fun _ _ _ h => h) (Or.inl ⟨by rfl, fun W hS => ?_⟩) hS ?_
  · obtain ⟨d0, d1, d2, d3, _⟩ := hS.1.f0 mm0
    go_simp
  simp only [Act.put, List.setIfInBounds_toArray, List.set_cons_zero, List.set_cons_succ]
  refine wpAnyH_ready (rs := [6]) (by kernel_rfl) (by simp) ?_
  refine AllReadyH.cons op6 (fun K hK => ?_) AllReadyH.nil
  rw [if_pos (by rfl)]
  go_simp
  refine (HD.out _).mono ?_
  rintro e g2 ⟨rfl, hB⟩
  have x2 := hK2.past hB
  have y2 : g2.cell? ⟨bt, n, none⟩ = some (.func (.func f) #[] #[]) := (hB.cell (p := ⟨bt, n, none⟩) lbt).trans hct
  have l2 : bt < g2.heap.size := World.block_lt_of_cell? g2 _ y2
  clear hB hK2 hS hct lbt
  (try go_wp2_with fail)
  refine hK.out _ _ ⟨x2.sub (fun p hp => List.Mem.tail _ hp), y2⟩ (fun _ => ?_)
  clear hK K
  refine wpAnyH_ready (rs := [7]) (by kernel_rfl) (by simp) ?_
  refine AllReadyH.cons op7 (fun K hK => ?_) AllReadyH.nil
  rw [if_pos (by rfl)]
  obtain ⟨cc0, cc1, cc2, cc3, ff0, ff1, ff2, ff3⟩ := x2.f0 mm0
  go_simp
  have x3 : Bx w ((w.heap.size + 1 + 1 + 1, p0, p1, p2, p3) :: [(w.heap.size + 1 + 1, c0, c1, c2, c3), (w.heap.size + 1, b0, b1, b2, b3), (w.heap.size, a0, a1, a2, a3)]) ((((g2.setCell ⟨w.heap.size + 1 + 1 + 1, 0, none⟩ (.int .u64 p0)).setCell ⟨w.heap.size + 1 + 1 + 1, 1, none⟩ (.int .u64 p1)).setCell ⟨w.heap.size + 1 + 1 + 1, 2, none⟩ (.int .u64 p2)).setCell ⟨w.heap.size + 1 + 1 + 1, 3, none⟩ (.int .u64 p3)) := Bx.put x2 (by intro p hp; simp only [List.mem_cons, List.not_mem_nil, or_false] at hp; rcases hp with rfl | rfl | rfl <;> simp <;> omega) p0 p1 p2 p3
  have y3 : ((((g2.setCell ⟨w.heap.size + 1 + 1 + 1, 0, none⟩ (.int .u64 p0)).setCell ⟨w.heap.size + 1 + 1 + 1, 1, none⟩ (.int .u64 p1)).setCell ⟨w.heap.size + 1 + 1 + 1, 2, none⟩ (.int .u64 p2)).setCell ⟨w.heap.size + 1 + 1 + 1, 3, none⟩ (.int .u64 p3)).cell? ⟨bt, n, none⟩ = some (.func (.func f) #[] #[]) := by
    have hne : ∀ k : Nat, (⟨bt, n, none⟩ : Addr) ≠ ⟨w.heap.size + 1 + 1 + 1, k, none⟩ := fun k e => by injection e with e1 _ _; omega
    rw [World.cell?_setCell_other _ _ _ _ (Ne.symm (hne 3)), World.cell?_setCell_other _ _ _ _ (Ne.symm (hne 2)), World.cell?_setCell_other _ _ _ _ (Ne.symm (hne 1)), World.cell?_setCell_other _ _ _ _ (Ne.symm (hne 0))]; exact y2
  refine hK.out _ _ ⟨x3.sub (fun p hp => List.Mem.tail _ hp), y3⟩ (fun hS => ?_)
  clear hK K cc0 cc1 cc2 cc3 ff0 ff1 ff2 ff3 x2 y2
  generalize ((((g2.setCell ⟨w.heap.size + 1 + 1 + 1, 0, none⟩ (.int .u64 p0)).setCell ⟨w.heap.size + 1 + 1 + 1, 1, none⟩ (.int .u64 p1)).setCell ⟨w.heap.size + 1 + 1 + 1, 2, none⟩ (.int .u64 p2)).setCell ⟨w.heap.size + 1 + 1 + 1, 3, none⟩ (.int .u64 p3)) = g3 at x3 y3 hS ⊢
  (try simp only [Act.put])
  refine wpAnyH_take (i := 8) (v := .bool true) op8 (by kernel_rfl) (by kernel_rfl) (by kernel_rfl) (fun _ _ _ h => h) (Or.inl ⟨by rfl, fun W hS => ?_⟩) ⟨x3.sub (fun p hp => List.Mem.tail _ hp), y3⟩ ?_
  · go_simp
  simp only [Act.put, List.setIfInBounds_toArray, List.set_cons_zero, List.set_cons_succ]
  refine wpAnyH_done (by kernel_rfl) ?_ _
  obtain ⟨r0, r1, r2, r3, _⟩ := x3.f0 mm0
  go_wp2
  exact bodyPost_ret (v := .tuple #[.agg #[.int .u64 p0, .int .u64 p1, .int .u64 p2, .int .u64 p3], .bool true]) (by simp [results, Tryz.results56, go_sem, r0, r1, r2, r3]) rfl ⟨rfl, x3.bel⟩
end Go.Proofs.YtpadpmkfhljiiaaGreat
/- word.Do where there is no deed. -/
namespace Go.Proofs.YtpadpmkfhljiiaaGreat
open Go.RowKit
set_option maxHeartbeats 4000000 in
set_option maxRecDepth 100000 in
theorem do_lt (a0 a1 a2 a3 b0 b1 b2 b3 c0 c1 c2 c3 : Int) (i : Int) (hi : i < 0) (w : World) :
    Calls Tryz.prog 56 #[.int .i64 i, .agg #[.int .u64 a0, .int .u64 a1, .int .u64 a2, .int .u64 a3], .agg #[.int .u64 b0, .int .u64 b1, .int .u64 b2, .int .u64 b3], .agg #[.int .u64 c0, .int .u64 c1, .int .u64 c2, .int .u64 c3]] w fun e w' => e = .returned (.tuple #[.agg #[.int .u64 0, .int .u64 0, .int .u64 0, .int .u64 0], .bool false]) ∧ Below w.heap.size w w' := by
  have i1 : decide (i < 0) = true := by simpa using hi
  have K0 : Hid (Bx w [(w.heap.size + 1 + 1 + 1, 0, 0, 0, 0), (w.heap.size + 1 + 1, c0, c1, c2, c3), (w.heap.size + 1, b0, b1, b2, b3), (w.heap.size, a0, a1, a2, a3)] ((((w.alloc (.cells #[.int .u64 a0, .int .u64 a1, .int .u64 a2, .int .u64 a3] 24)).alloc (.cells #[.int .u64 b0, .int .u64 b1, .int .u64 b2, .int .u64 b3] 24)).alloc (.cells #[.int .u64 c0, .int .u64 c1, .int .u64 c2, .int .u64 c3] 24)).alloc (.cells #[.int .u64 0, .int .u64 0, .int .u64 0, .int .u64 0] 24))) := by
    have h := ((((Bx.start w).alloc a0 a1 a2 a3).alloc b0 b1 b2 b3).alloc c0 c1 c2 c3).alloc 0 0 0 0
    (try simp only [World.size_alloc] at h)
    exact h
  go_enter Tryz.func56, Tryz.ntmps56
  go_upto_region 1 with fail
  generalize ((((w.alloc (.cells #[.int .u64 a0, .int .u64 a1, .int .u64 a2, .int .u64 a3] 24)).alloc (.cells #[.int .u64 b0, .int .u64 b1, .int .u64 b2, .int .u64 b3] 24)).alloc (.cells #[.int .u64 c0, .int .u64 c1, .int .u64 c2, .int .u64 c3] 24)).alloc (.cells #[.int .u64 0, .int .u64 0, .int .u64 0, .int .u64 0] 24)) = W0 at K0 ⊢
  go_upto_region 2 with (first
    | (go_at_call 111; refine (deeds_any _).mono ?_; rintro e w1 ⟨rfl, hB⟩; (have K1 : Hid _ := K0.out.past hB); clear hB K0)
    | (refine store_tbl rfl _ _ rfl w1.heap.size rfl rfl (there_new w1 _ _) ?_; intro w2 hB hz2 hr2; change Hid _))
  have zt : w1.heap.size < w2.heap.size := by rw [hz2]; simp
  have zb : w.heap.size + 1 + 1 + 1 < w1.heap.size := K1.out.lt _ mm0
  have K2 : Hid (Bx w [(w.heap.size + 1 + 1 + 1, 0, 0, 0, 0), (w.heap.size + 1 + 1, c0, c1, c2, c3), (w.heap.size + 1, b0, b1, b2, b3), (w.heap.size, a0, a1, a2, a3)] w2) := K1.out.past ((Below.alloc (Below.refl _ _) (Nat.le_refl _) _).trans hB)
  unfold Hid
  generalize w1.heap.size = bt at zt zb ⊢
  clear hB hz2 hr2 K1
  obtain ⟨r0, r1, r2, r3, f0, f1, f2, f3⟩ := K2.out.f0 mm0
  go_wp2
  exact bodyPost_ret (v := .tuple #[.agg #[.int .u64 0, .int .u64 0, .int .u64 0, .int .u64 0], .bool false]) (by simp [results, Tryz.results56, go_sem, r0, r1, r2, r3]) rfl ⟨rfl, below_put K2.out.bel (by omega) _ _ _ _⟩
set_option maxHeartbeats 4000000 in
set_option maxRecDepth 100000 in
theorem do_ge (a0 a1 a2 a3 b0 b1 b2 b3 c0 c1 c2 c3 : Int) (i : Int) (hi : 31 ≤ i) (w : World) :
    Calls Tryz.prog 56 #[.int .i64 i, .agg #[.int .u64 a0, .int .u64 a1, .int .u64 a2, .int .u64 a3], .agg #[.int .u64 b0, .int .u64 b1, .int .u64 b2, .int .u64 b3], .agg #[.int .u64 c0, .int .u64 c1, .int .u64 c2, .int .u64 c3]] w fun e w' => e = .returned (.tuple #[.agg #[.int .u64 0, .int .u64 0, .int .u64 0, .int .u64 0], .bool false]) ∧ Below w.heap.size w w' := by
  have i0 : ¬ i < 0 := by omega
  have K0 : Hid (Bx w [(w.heap.size + 1 + 1 + 1, 0, 0, 0, 0), (w.heap.size + 1 + 1, c0, c1, c2, c3), (w.heap.size + 1, b0, b1, b2, b3), (w.heap.size, a0, a1, a2, a3)] ((((w.alloc (.cells #[.int .u64 a0, .int .u64 a1, .int .u64 a2, .int .u64 a3] 24)).alloc (.cells #[.int .u64 b0, .int .u64 b1, .int .u64 b2, .int .u64 b3] 24)).alloc (.cells #[.int .u64 c0, .int .u64 c1, .int .u64 c2, .int .u64 c3] 24)).alloc (.cells #[.int .u64 0, .int .u64 0, .int .u64 0, .int .u64 0] 24))) := by
    have h := ((((Bx.start w).alloc a0 a1 a2 a3).alloc b0 b1 b2 b3).alloc c0 c1 c2 c3).alloc 0 0 0 0
    (try simp only [World.size_alloc] at h)
    exact h
  go_enter Tryz.func56, Tryz.ntmps56
  go_upto_region 1 with fail
  generalize ((((w.alloc (.cells #[.int .u64 a0, .int .u64 a1, .int .u64 a2, .int .u64 a3] 24)).alloc (.cells #[.int .u64 b0, .int .u64 b1, .int .u64 b2, .int .u64 b3] 24)).alloc (.cells #[.int .u64 c0, .int .u64 c1, .int .u64 c2, .int .u64 c3] 24)).alloc (.cells #[.int .u64 0, .int .u64 0, .int .u64 0, .int .u64 0] 24)) = W0 at K0 ⊢
  go_upto_region 2 with (first
    | (go_at_call 111; refine (deeds_any _).mono ?_; rintro e w1 ⟨rfl, hB⟩; (have K1 : Hid _ := K0.out.past hB); clear hB K0)
    | (refine store_tbl rfl _ _ rfl w1.heap.size rfl rfl (there_new w1 _ _) ?_; intro w2 hB hz2 hr2; change Hid _))
  have zt : w1.heap.size < w2.heap.size := by rw [hz2]; simp
  have zb : w.heap.size + 1 + 1 + 1 < w1.heap.size := K1.out.lt _ mm0
  have K2 : Hid (Bx w [(w.heap.size + 1 + 1 + 1, 0, 0, 0, 0), (w.heap.size + 1 + 1, c0, c1, c2, c3), (w.heap.size + 1, b0, b1, b2, b3), (w.heap.size, a0, a1, a2, a3)] w2) := K1.out.past ((Below.alloc (Below.refl _ _) (Nat.le_refl _) _).trans hB)
  unfold Hid
  generalize w1.heap.size = bt at zt zb ⊢
  clear hB hz2 hr2 K1
  obtain ⟨r0, r1, r2, r3, f0, f1, f2, f3⟩ := K2.out.f0 mm0
  go_wp2
  exact bodyPost_ret (v := .tuple #[.agg #[.int .u64 0, .int .u64 0, .int .u64 0, .int .u64 0], .bool false]) (by simp [results, Tryz.results56, go_sem, r0, r1, r2, r3]) rfl ⟨rfl, below_put K2.out.bel (by omega) _ _ _ _⟩
set_option maxHeartbeats 4000000 in
set_option maxRecDepth 100000 in
theorem do_nil (a0 a1 a2 a3 b0 b1 b2 b3 c0 c1 c2 c3 : Int) (n : Nat) (hn : n < 31) (hf : tbl[n]? = some .nilFunc) (w : World) :
    Calls Tryz.prog 56 #[.int .i64 (n : Int), .agg #[.int .u64 a0, .int .u64 a1, .int .u64 a2, .int .u64 a3], .agg #[.int .u64 b0, .int .u64 b1, .int .u64 b2, .int .u64 b3], .agg #[.int .u64 c0, .int .u64 c1, .int .u64 c2, .int .u64 c3]] w fun e w' => e = .returned (.tuple #[.agg #[.int .u64 0, .int .u64 0, .int .u64 0, .int .u64 0], .bool false]) ∧ Below w.heap.size w w' := by
  have HT : Hid (tbl[n]? = some .nilFunc) := hf
  clear hf
  have n0 : ¬ (n : Int) < 0 := by omega
  have n1 : ¬ (31 : Int) ≤ (n : Int) := by omega
  have n2 : (n : Int) < 31 := by omega
  have hq := eqn_run
  have K0 : Hid (Bx w [(w.heap.size + 1 + 1 + 1, 0, 0, 0, 0), (w.heap.size + 1 + 1, c0, c1, c2, c3), (w.heap.size + 1, b0, b1, b2, b3), (w.heap.size, a0, a1, a2, a3)] ((((w.alloc (.cells #[.int .u64 a0, .int .u64 a1, .int .u64 a2, .int .u64 a3] 24)).alloc (.cells #[.int .u64 b0, .int .u64 b1, .int .u64 b2, .int .u64 b3] 24)).alloc (.cells #[.int .u64 c0, .int .u64 c1, .int .u64 c2, .int .u64 c3] 24)).alloc (.cells #[.int .u64 0, .int .u64 0, .int .u64 0, .int .u64 0] 24))) := by
    have h := ((((Bx.start w).alloc a0 a1 a2 a3).alloc b0 b1 b2 b3).alloc c0 c1 c2 c3).alloc 0 0 0 0
    (try simp only [World.size_alloc] at h)
    exact h
  go_enter Tryz.func56, Tryz.ntmps56
  go_upto_region 1 with fail
  generalize ((((w.alloc (.cells #[.int .u64 a0, .int .u64 a1, .int .u64 a2, .int .u64 a3] 24)).alloc (.cells #[.int .u64 b0, .int .u64 b1, .int .u64 b2, .int .u64 b3] 24)).alloc (.cells #[.int .u64 c0, .int .u64 c1, .int .u64 c2, .int .u64 c3] 24)).alloc (.cells #[.int .u64 0, .int .u64 0, .int .u64 0, .int .u64 0] 24)) = W0 at K0 ⊢
  go_upto_region 2 with (first
    | (go_at_call 111; refine (deeds_any _).mono ?_; rintro e w1 ⟨rfl, hB⟩; (have K1 : Hid _ := K0.out.past hB); clear hB K0)
    | (refine store_tbl rfl _ _ rfl w1.heap.size rfl rfl (there_new w1 _ _) ?_; intro w2 hB hz2 hr2; change Hid _))
  have zt : w1.heap.size < w2.heap.size := by rw [hz2]; simp
  have zb : w.heap.size + 1 + 1 + 1 < w1.heap.size := K1.out.lt _ mm0
  have kt : w2.cell? ⟨w1.heap.size, n, none⟩ = some .nilFunc := by have := hr2 n _ HT.out; simpa using this
  have K2 : Hid (Bx w [(w.heap.size + 1 + 1 + 1, 0, 0, 0, 0), (w.heap.size + 1 + 1, c0, c1, c2, c3), (w.heap.size + 1, b0, b1, b2, b3), (w.heap.size, a0, a1, a2, a3)] w2) := K1.out.past ((Below.alloc (Below.refl _ _) (Nat.le_refl _) _).trans hB)
  unfold Hid
  generalize w1.heap.size = bt at kt zt zb ⊢
  clear hB hz2 hr2 K1
  obtain ⟨r0, r1, r2, r3, f0, f1, f2, f3⟩ := K2.out.f0 mm0
  go_wp2
  exact bodyPost_ret (v := .tuple #[.agg #[.int .u64 0, .int .u64 0, .int .u64 0, .int .u64 0], .bool false]) (by simp [results, Tryz.results56, go_sem, r0, r1, r2, r3]) rfl ⟨rfl, below_put K2.out.bel (by omega) _ _ _ _⟩
end Go.Proofs.YtpadpmkfhljiiaaGreat
