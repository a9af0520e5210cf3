/- The document's Do, code by code (0). -/
import Derived.Test.YtpadpmkfhljiiaaGreatMp3
import Derived.Test.YtpadpmkfhljiiaaGreatMp4
import Derived.Test.YtpadpmkfhljiiaaGreatMp12
import Derived.Test.YtpadpmkfhljiiaaGreatMp13
import Derived.Test.YtpadpmkfhljiiaaGreatMp14
namespace Go.Proofs.YtpadpmkfhljiiaaGreat
open Go.RowKit
set_option maxHeartbeats 4000000 in
set_option maxRecDepth 100000 in
theorem rdo_1 (a0 a1 a2 a3 b0 b1 b2 b3 c0 c1 c2 c3 p0 p1 p2 p3 : Int) (X : ∀ W : World, Calls Tryz.prog 12 #[.agg #[.int .u64 a0, .int .u64 a1, .int .u64 a2, .int .u64 a3], .agg #[.int .u64 b0, .int .u64 b1, .int .u64 b2, .int .u64 b3]] W fun e w' => e = .returned (.agg #[.int .u64 p0, .int .u64 p1, .int .u64 p2, .int .u64 p3]) ∧ Below W.heap.size W w') (w : World) :
    Calls Tryz.prog 57 #[.int .i64 1, .agg #[.int .u64 a0, .int .u64 a1, .int .u64 a2, .int .u64 a3], .agg #[.int .u64 b0, .int .u64 b1, .int .u64 b2, .int .u64 b3], .agg #[.int .u64 c0, .int .u64 c1, .int .u64 c2, .int .u64 c3]] w fun e w' => e = .returned (.tuple #[.agg #[.int .u64 p0, .int .u64 p1, .int .u64 p2, .int .u64 p3], .bool true]) ∧ Below w.heap.size w w' := by
  have HX : Hid _ := X
  clear X
  go_enter Tryz.func57, Tryz.ntmps57
  go_upto_region 1 with fail
  have K0 : Hid (Bx w [(w.heap.size + 1 + 1 + 1, 0, 0, 0, 0), (w.heap.size + 1 + 1, c0, c1, c2, c3), (w.heap.size + 1, b0, b1, b2, b3), (w.heap.size, a0, a1, a2, a3)] ((((w.alloc (.cells #[.int .u64 a0, .int .u64 a1, .int .u64 a2, .int .u64 a3] 24)).alloc (.cells #[.int .u64 b0, .int .u64 b1, .int .u64 b2, .int .u64 b3] 24)).alloc (.cells #[.int .u64 c0, .int .u64 c1, .int .u64 c2, .int .u64 c3] 24)).alloc (.cells #[.int .u64 0, .int .u64 0, .int .u64 0, .int .u64 0] 24))) := by
    have h := ((((Bx.start w).alloc a0 a1 a2 a3).alloc b0 b1 b2 b3).alloc c0 c1 c2 c3).alloc 0 0 0 0
    (try simp only [World.size_alloc] at h)
    exact h
  generalize ((((w.alloc (.cells #[.int .u64 a0, .int .u64 a1, .int .u64 a2, .int .u64 a3] 24)).alloc (.cells #[.int .u64 b0, .int .u64 b1, .int .u64 b2, .int .u64 b3] 24)).alloc (.cells #[.int .u64 c0, .int .u64 c1, .int .u64 c2, .int .u64 c3] 24)).alloc (.cells #[.int .u64 0, .int .u64 0, .int .u64 0, .int .u64 0] 24)) = W0 at K0 ⊢
  obtain ⟨ka0, ka1, ka2, ka3, _⟩ := K0.out.f0 mm3
  obtain ⟨kb0, kb1, kb2, kb3, _⟩ := K0.out.f0 mm2
  go_wp2_with (go_at_call 12; refine (HX.out _).mono ?_; rintro e x9 ⟨rfl, hB⟩; (have K9 : Hid _ := K0.out.past hB); clear hB K0 ka0 ka1 ka2 ka3 kb0 kb1 kb2 kb3; obtain ⟨r0, r1, r2, r3, f0, f1, f2, f3⟩ := K9.out.f0 mm0)
  exact bodyPost_ret (v := .tuple #[.agg #[.int .u64 p0, .int .u64 p1, .int .u64 p2, .int .u64 p3], .bool true]) (by simp [results, Tryz.results57, go_sem, r0, r1, r2, r3]) rfl ⟨rfl, below_put K9.out.bel (by omega) _ _ _ _⟩
set_option maxHeartbeats 4000000 in
set_option maxRecDepth 100000 in
theorem rdo_2 (a0 a1 a2 a3 b0 b1 b2 b3 c0 c1 c2 c3 p0 p1 p2 p3 : Int) (X : ∀ W : World, Calls Tryz.prog 16 #[.agg #[.int .u64 a0, .int .u64 a1, .int .u64 a2, .int .u64 a3], .agg #[.int .u64 b0, .int .u64 b1, .int .u64 b2, .int .u64 b3]] W fun e w' => e = .returned (.agg #[.int .u64 p0, .int .u64 p1, .int .u64 p2, .int .u64 p3]) ∧ Below W.heap.size W w') (w : World) :
    Calls Tryz.prog 57 #[.int .i64 2, .agg #[.int .u64 a0, .int .u64 a1, .int .u64 a2, .int .u64 a3], .agg #[.int .u64 b0, .int .u64 b1, .int .u64 b2, .int .u64 b3], .agg #[.int .u64 c0, .int .u64 c1, .int .u64 c2, .int .u64 c3]] w fun e w' => e = .returned (.tuple #[.agg #[.int .u64 p0, .int .u64 p1, .int .u64 p2, .int .u64 p3], .bool true]) ∧ Below w.heap.size w w' := by
  have HX : Hid _ := X
  clear X
  go_enter Tryz.func57, Tryz.ntmps57
  go_upto_region 1 with fail
  have K0 : Hid (Bx w [(w.heap.size + 1 + 1 + 1, 0, 0, 0, 0), (w.heap.size + 1 + 1, c0, c1, c2, c3), (w.heap.size + 1, b0, b1, b2, b3), (w.heap.size, a0, a1, a2, a3)] ((((w.alloc (.cells #[.int .u64 a0, .int .u64 a1, .int .u64 a2, .int .u64 a3] 24)).alloc (.cells #[.int .u64 b0, .int .u64 b1, .int .u64 b2, .int .u64 b3] 24)).alloc (.cells #[.int .u64 c0, .int .u64 c1, .int .u64 c2, .int .u64 c3] 24)).alloc (.cells #[.int .u64 0, .int .u64 0, .int .u64 0, .int .u64 0] 24))) := by
    have h := ((((Bx.start w).alloc a0 a1 a2 a3).alloc b0 b1 b2 b3).alloc c0 c1 c2 c3).alloc 0 0 0 0
    (try simp only [World.size_alloc] at h)
    exact h
  generalize ((((w.alloc (.cells #[.int .u64 a0, .int .u64 a1, .int .u64 a2, .int .u64 a3] 24)).alloc (.cells #[.int .u64 b0, .int .u64 b1, .int .u64 b2, .int .u64 b3] 24)).alloc (.cells #[.int .u64 c0, .int .u64 c1, .int .u64 c2, .int .u64 c3] 24)).alloc (.cells #[.int .u64 0, .int .u64 0, .int .u64 0, .int .u64 0] 24)) = W0 at K0 ⊢
  obtain ⟨ka0, ka1, ka2, ka3, _⟩ := K0.out.f0 mm3
  obtain ⟨kb0, kb1, kb2, kb3, _⟩ := K0.out.f0 mm2
  go_wp2_with (go_at_call 16; refine (HX.out _).mono ?_; rintro e x9 ⟨rfl, hB⟩; (have K9 : Hid _ := K0.out.past hB); clear hB K0 ka0 ka1 ka2 ka3 kb0 kb1 kb2 kb3; obtain ⟨r0, r1, r2, r3, f0, f1, f2, f3⟩ := K9.out.f0 mm0)
  exact bodyPost_ret (v := .tuple #[.agg #[.int .u64 p0, .int .u64 p1, .int .u64 p2, .int .u64 p3], .bool true]) (by simp [results, Tryz.results57, go_sem, r0, r1, r2, r3]) rfl ⟨rfl, below_put K9.out.bel (by omega) _ _ _ _⟩
set_option maxHeartbeats 4000000 in
set_option maxRecDepth 100000 in
theorem rdo_3 (a0 a1 a2 a3 b0 b1 b2 b3 c0 c1 c2 c3 p0 p1 p2 p3 : Int) (X : ∀ W : World, Calls Tryz.prog 14 #[.agg #[.int .u64 a0, .int .u64 a1, .int .u64 a2, .int .u64 a3], .agg #[.int .u64 b0, .int .u64 b1, .int .u64 b2, .int .u64 b3]] W fun e w' => e = .returned (.agg #[.int .u64 p0, .int .u64 p1, .int .u64 p2, .int .u64 p3]) ∧ Below W.heap.size W w') (w : World) :
    Calls Tryz.prog 57 #[.int .i64 3, .agg #[.int .u64 a0, .int .u64 a1, .int .u64 a2, .int .u64 a3], .agg #[.int .u64 b0, .int .u64 b1, .int .u64 b2, .int .u64 b3], .agg #[.int .u64 c0, .int .u64 c1, .int .u64 c2, .int .u64 c3]] w fun e w' => e = .returned (.tuple #[.agg #[.int .u64 p0, .int .u64 p1, .int .u64 p2, .int .u64 p3], .bool true]) ∧ Below w.heap.size w w' := by
  have HX : Hid _ := X
  clear X
  go_enter Tryz.func57, Tryz.ntmps57
  go_upto_region 1 with fail
  have K0 : Hid (Bx w [(w.heap.size + 1 + 1 + 1, 0, 0, 0, 0), (w.heap.size + 1 + 1, c0, c1, c2, c3), (w.heap.size + 1, b0, b1, b2, b3), (w.heap.size, a0, a1, a2, a3)] ((((w.alloc (.cells #[.int .u64 a0, .int .u64 a1, .int .u64 a2, .int .u64 a3] 24)).alloc (.cells #[.int .u64 b0, .int .u64 b1, .int .u64 b2, .int .u64 b3] 24)).alloc (.cells #[.int .u64 c0, .int .u64 c1, .int .u64 c2, .int .u64 c3] 24)).alloc (.cells #[.int .u64 0, .int .u64 0, .int .u64 0, .int .u64 0] 24))) := by
    have h := ((((Bx.start w).alloc a0 a1 a2 a3).alloc b0 b1 b2 b3).alloc c0 c1 c2 c3).alloc 0 0 0 0
    (try simp only [World.size_alloc] at h)
    exact h
  generalize ((((w.alloc (.cells #[.int .u64 a0, .int .u64 a1, .int .u64 a2, .int .u64 a3] 24)).alloc (.cells #[.int .u64 b0, .int .u64 b1, .int .u64 b2, .int .u64 b3] 24)).alloc (.cells #[.int .u64 c0, .int .u64 c1, .int .u64 c2, .int .u64 c3] 24)).alloc (.cells #[.int .u64 0, .int .u64 0, .int .u64 0, .int .u64 0] 24)) = W0 at K0 ⊢
  obtain ⟨ka0, ka1, ka2, ka3, _⟩ := K0.out.f0 mm3
  obtain ⟨kb0, kb1, kb2, kb3, _⟩ := K0.out.f0 mm2
  go_wp2_with (go_at_call 14; refine (HX.out _).mono ?_; rintro e x9 ⟨rfl, hB⟩; (have K9 : Hid _ := K0.out.past hB); clear hB K0 ka0 ka1 ka2 ka3 kb0 kb1 kb2 kb3; obtain ⟨r0, r1, r2, r3, f0, f1, f2, f3⟩ := K9.out.f0 mm0)
  exact bodyPost_ret (v := .tuple #[.agg #[.int .u64 p0, .int .u64 p1, .int .u64 p2, .int .u64 p3], .bool true]) (by simp [results, Tryz.results57, go_sem, r0, r1, r2, r3]) rfl ⟨rfl, below_put K9.out.bel (by omega) _ _ _ _⟩
set_option maxHeartbeats 4000000 in
set_option maxRecDepth 100000 in
theorem rdo_4 (a0 a1 a2 a3 b0 b1 b2 b3 c0 c1 c2 c3 p0 p1 p2 p3 : Int) (X : ∀ W : World, Calls Tryz.prog 18 #[.agg #[.int .u64 a0, .int .u64 a1, .int .u64 a2, .int .u64 a3], .agg #[.int .u64 b0, .int .u64 b1, .int .u64 b2, .int .u64 b3]] W fun e w' => e = .returned (.agg #[.int .u64 p0, .int .u64 p1, .int .u64 p2, .int .u64 p3]) ∧ Below W.heap.size W w') (w : World) :
    Calls Tryz.prog 57 #[.int .i64 4, .agg #[.int .u64 a0, .int .u64 a1, .int .u64 a2, .int .u64 a3], .agg #[.int .u64 b0, .int .u64 b1, .int .u64 b2, .int .u64 b3], .agg #[.int .u64 c0, .int .u64 c1, .int .u64 c2, .int .u64 c3]] w fun e w' => e = .returned (.tuple #[.agg #[.int .u64 p0, .int .u64 p1, .int .u64 p2, .int .u64 p3], .bool true]) ∧ Below w.heap.size w w' := by
  have HX : Hid _ := X
  clear X
  go_enter Tryz.func57, Tryz.ntmps57
  go_upto_region 1 with fail
  have K0 : Hid (Bx w [(w.heap.size + 1 + 1 + 1, 0, 0, 0, 0), (w.heap.size + 1 + 1, c0, c1, c2, c3), (w.heap.size + 1, b0, b1, b2, b3), (w.heap.size, a0, a1, a2, a3)] ((((w.alloc (.cells #[.int .u64 a0, .int .u64 a1, .int .u64 a2, .int .u64 a3] 24)).alloc (.cells #[.int .u64 b0, .int .u64 b1, .int .u64 b2, .int .u64 b3] 24)).alloc (.cells #[.int .u64 c0, .int .u64 c1, .int .u64 c2, .int .u64 c3] 24)).alloc (.cells #[.int .u64 0, .int .u64 0, .int .u64 0, .int .u64 0] 24))) := by
    have h := ((((Bx.start w).alloc a0 a1 a2 a3).alloc b0 b1 b2 b3).alloc c0 c1 c2 c3).alloc 0 0 0 0
    (try simp only [World.size_alloc] at h)
    exact h
  generalize ((((w.alloc (.cells #[.int .u64 a0, .int .u64 a1, .int .u64 a2, .int .u64 a3] 24)).alloc (.cells #[.int .u64 b0, .int .u64 b1, .int .u64 b2, .int .u64 b3] 24)).alloc (.cells #[.int .u64 c0, .int .u64 c1, .int .u64 c2, .int .u64 c3] 24)).alloc (.cells #[.int .u64 0, .int .u64 0, .int .u64 0, .int .u64 0] 24)) = W0 at K0 ⊢
  obtain ⟨ka0, ka1, ka2, ka3, _⟩ := K0.out.f0 mm3
  obtain ⟨kb0, kb1, kb2, kb3, _⟩ := K0.out.f0 mm2
  go_wp2_with (go_at_call 18; refine (HX.out _).mono ?_; rintro e x9 ⟨rfl, hB⟩; (have K9 : Hid _ := K0.out.past hB); clear hB K0 ka0 ka1 ka2 ka3 kb0 kb1 kb2 kb3; obtain ⟨r0, r1, r2, r3, f0, f1, f2, f3⟩ := K9.out.f0 mm0)
  exact bodyPost_ret (v := .tuple #[.agg #[.int .u64 p0, .int .u64 p1, .int .u64 p2, .int .u64 p3], .bool true]) (by simp [results, Tryz.results57, go_sem, r0, r1, r2, r3]) rfl ⟨rfl, below_put K9.out.bel (by omega) _ _ _ _⟩
set_option maxHeartbeats 4000000 in
set_option maxRecDepth 100000 in
theorem rdo_5 (a0 a1 a2 a3 b0 b1 b2 b3 c0 c1 c2 c3 p0 p1 p2 p3 : Int) (X : ∀ W : World, Calls Tryz.prog 23 #[.agg #[.int .u64 a0, .int .u64 a1, .int .u64 a2, .int .u64 a3], .agg #[.int .u64 b0, .int .u64 b1, .int .u64 b2, .int .u64 b3]] W fun e w' => e = .returned (.agg #[.int .u64 p0, .int .u64 p1, .int .u64 p2, .int .u64 p3]) ∧ Below W.heap.size W w') (w : World) :
    Calls Tryz.prog 57 #[.int .i64 5, .agg #[.int .u64 a0, .int .u64 a1, .int .u64 a2, .int .u64 a3], .agg #[.int .u64 b0, .int .u64 b1, .int .u64 b2, .int .u64 b3], .agg #[.int .u64 c0, .int .u64 c1, .int .u64 c2, .int .u64 c3]] w fun e w' => e = .returned (.tuple #[.agg #[.int .u64 p0, .int .u64 p1, .int .u64 p2, .int .u64 p3], .bool true]) ∧ Below w.heap.size w w' := by
  have HX : Hid _ := X
  clear X
  go_enter Tryz.func57, Tryz.ntmps57
  go_upto_region 1 with fail
  have K0 : Hid (Bx w [(w.heap.size + 1 + 1 + 1, 0, 0, 0, 0), (w.heap.size + 1 + 1, c0, c1, c2, c3), (w.heap.size + 1, b0, b1, b2, b3), (w.heap.size, a0, a1, a2, a3)] ((((w.alloc (.cells #[.int .u64 a0, .int .u64 a1, .int .u64 a2, .int .u64 a3] 24)).alloc (.cells #[.int .u64 b0, .int .u64 b1, .int .u64 b2, .int .u64 b3] 24)).alloc (.cells #[.int .u64 c0, .int .u64 c1, .int .u64 c2, .int .u64 c3] 24)).alloc (.cells #[.int .u64 0, .int .u64 0, .int .u64 0, .int .u64 0] 24))) := by
    have h := ((((Bx.start w).alloc a0 a1 a2 a3).alloc b0 b1 b2 b3).alloc c0 c1 c2 c3).alloc 0 0 0 0
    (try simp only [World.size_alloc] at h)
    exact h
  generalize ((((w.alloc (.cells #[.int .u64 a0, .int .u64 a1, .int .u64 a2, .int .u64 a3] 24)).alloc (.cells #[.int .u64 b0, .int .u64 b1, .int .u64 b2, .int .u64 b3] 24)).alloc (.cells #[.int .u64 c0, .int .u64 c1, .int .u64 c2, .int .u64 c3] 24)).alloc (.cells #[.int .u64 0, .int .u64 0, .int .u64 0, .int .u64 0] 24)) = W0 at K0 ⊢
  obtain ⟨ka0, ka1, ka2, ka3, _⟩ := K0.out.f0 mm3
  obtain ⟨kb0, kb1, kb2, kb3, _⟩ := K0.out.f0 mm2
  go_wp2_with (go_at_call 23; refine (HX.out _).mono ?_; rintro e x9 ⟨rfl, hB⟩; (have K9 : Hid _ := K0.out.past hB); clear hB K0 ka0 ka1 ka2 ka3 kb0 kb1 kb2 kb3; obtain ⟨r0, r1, r2, r3, f0, f1, f2, f3⟩ := K9.out.f0 mm0)
  exact bodyPost_ret (v := .tuple #[.agg #[.int .u64 p0, .int .u64 p1, .int .u64 p2, .int .u64 p3], .bool true]) (by simp [results, Tryz.results57, go_sem, r0, r1, r2, r3]) rfl ⟨rfl, below_put K9.out.bel (by omega) _ _ _ _⟩
set_option maxHeartbeats 4000000 in
set_option maxRecDepth 100000 in
theorem rdo_6 (a0 a1 a2 a3 b0 b1 b2 b3 c0 c1 c2 c3 p0 p1 p2 p3 : Int) (X : ∀ W : World, Calls Tryz.prog 20 #[.agg #[.int .u64 a0, .int .u64 a1, .int .u64 a2, .int .u64 a3], .agg #[.int .u64 b0, .int .u64 b1, .int .u64 b2, .int .u64 b3]] W fun e w' => e = .returned (.agg #[.int .u64 p0, .int .u64 p1, .int .u64 p2, .int .u64 p3]) ∧ Below W.heap.size W w') (w : World) :
    Calls Tryz.prog 57 #[.int .i64 6, .agg #[.int .u64 a0, .int .u64 a1, .int .u64 a2, .int .u64 a3], .agg #[.int .u64 b0, .int .u64 b1, .int .u64 b2, .int .u64 b3], .agg #[.int .u64 c0, .int .u64 c1, .int .u64 c2, .int .u64 c3]] w fun e w' => e = .returned (.tuple #[.agg #[.int .u64 p0, .int .u64 p1, .int .u64 p2, .int .u64 p3], .bool true]) ∧ Below w.heap.size w w' := by
  have HX : Hid _ := X
  clear X
  go_enter Tryz.func57, Tryz.ntmps57
  go_upto_region 1 with fail
  have K0 : Hid (Bx w [(w.heap.size + 1 + 1 + 1, 0, 0, 0, 0), (w.heap.size + 1 + 1, c0, c1, c2, c3), (w.heap.size + 1, b0, b1, b2, b3), (w.heap.size, a0, a1, a2, a3)] ((((w.alloc (.cells #[.int .u64 a0, .int .u64 a1, .int .u64 a2, .int .u64 a3] 24)).alloc (.cells #[.int .u64 b0, .int .u64 b1, .int .u64 b2, .int .u64 b3] 24)).alloc (.cells #[.int .u64 c0, .int .u64 c1, .int .u64 c2, .int .u64 c3] 24)).alloc (.cells #[.int .u64 0, .int .u64 0, .int .u64 0, .int .u64 0] 24))) := by
    have h := ((((Bx.start w).alloc a0 a1 a2 a3).alloc b0 b1 b2 b3).alloc c0 c1 c2 c3).alloc 0 0 0 0
    (try simp only [World.size_alloc] at h)
    exact h
  generalize ((((w.alloc (.cells #[.int .u64 a0, .int .u64 a1, .int .u64 a2, .int .u64 a3] 24)).alloc (.cells #[.int .u64 b0, .int .u64 b1, .int .u64 b2, .int .u64 b3] 24)).alloc (.cells #[.int .u64 c0, .int .u64 c1, .int .u64 c2, .int .u64 c3] 24)).alloc (.cells #[.int .u64 0, .int .u64 0, .int .u64 0, .int .u64 0] 24)) = W0 at K0 ⊢
  obtain ⟨ka0, ka1, ka2, ka3, _⟩ := K0.out.f0 mm3
  obtain ⟨kb0, kb1, kb2, kb3, _⟩ := K0.out.f0 mm2
  go_wp2_with (go_at_call 20; refine (HX.out _).mono ?_; rintro e x9 ⟨rfl, hB⟩; (have K9 : Hid _ := K0.out.past hB); clear hB K0 ka0 ka1 ka2 ka3 kb0 kb1 kb2 kb3; obtain ⟨r0, r1, r2, r3, f0, f1, f2, f3⟩ := K9.out.f0 mm0)
  exact bodyPost_ret (v := .tuple #[.agg #[.int .u64 p0, .int .u64 p1, .int .u64 p2, .int .u64 p3], .bool true]) (by simp [results, Tryz.results57, go_sem, r0, r1, r2, r3]) rfl ⟨rfl, below_put K9.out.bel (by omega) _ _ _ _⟩
set_option maxHeartbeats 4000000 in
set_option maxRecDepth 100000 in
theorem rdo_7 (a0 a1 a2 a3 b0 b1 b2 b3 c0 c1 c2 c3 p0 p1 p2 p3 : Int) (X : ∀ W : World, Calls Tryz.prog 25 #[.agg #[.int .u64 a0, .int .u64 a1, .int .u64 a2, .int .u64 a3], .agg #[.int .u64 b0, .int .u64 b1, .int .u64 b2, .int .u64 b3]] W fun e w' => e = .returned (.agg #[.int .u64 p0, .int .u64 p1, .int .u64 p2, .int .u64 p3]) ∧ Below W.heap.size W w') (w : World) :
    Calls Tryz.prog 57 #[.int .i64 7, .agg #[.int .u64 a0, .int .u64 a1, .int .u64 a2, .int .u64 a3], .agg #[.int .u64 b0, .int .u64 b1, .int .u64 b2, .int .u64 b3], .agg #[.int .u64 c0, .int .u64 c1, .int .u64 c2, .int .u64 c3]] w fun e w' => e = .returned (.tuple #[.agg #[.int .u64 p0, .int .u64 p1, .int .u64 p2, .int .u64 p3], .bool true]) ∧ Below w.heap.size w w' := by
  have HX : Hid _ := X
  clear X
  go_enter Tryz.func57, Tryz.ntmps57
  go_upto_region 1 with fail
  have K0 : Hid (Bx w [(w.heap.size + 1 + 1 + 1, 0, 0, 0, 0), (w.heap.size + 1 + 1, c0, c1, c2, c3), (w.heap.size + 1, b0, b1, b2, b3), (w.heap.size, a0, a1, a2, a3)] ((((w.alloc (.cells #[.int .u64 a0, .int .u64 a1, .int .u64 a2, .int .u64 a3] 24)).alloc (.cells #[.int .u64 b0, .int .u64 b1, .int .u64 b2, .int .u64 b3] 24)).alloc (.cells #[.int .u64 c0, .int .u64 c1, .int .u64 c2, .int .u64 c3] 24)).alloc (.cells #[.int .u64 0, .int .u64 0, .int .u64 0, .int .u64 0] 24))) := by
    have h := ((((Bx.start w).alloc a0 a1 a2 a3).alloc b0 b1 b2 b3).alloc c0 c1 c2 c3).alloc 0 0 0 0
    (try simp only [World.size_alloc] at h)
    exact h
  generalize ((((w.alloc (.cells #[.int .u64 a0, .int .u64 a1, .int .u64 a2, .int .u64 a3] 24)).alloc (.cells #[.int .u64 b0, .int .u64 b1, .int .u64 b2, .int .u64 b3] 24)).alloc (.cells #[.int .u64 c0, .int .u64 c1, .int .u64 c2, .int .u64 c3] 24)).alloc (.cells #[.int .u64 0, .int .u64 0, .int .u64 0, .int .u64 0] 24)) = W0 at K0 ⊢
  obtain ⟨ka0, ka1, ka2, ka3, _⟩ := K0.out.f0 mm3
  obtain ⟨kb0, kb1, kb2, kb3, _⟩ := K0.out.f0 mm2
  go_wp2_with (go_at_call 25; refine (HX.out _).mono ?_; rintro e x9 ⟨rfl, hB⟩; (have K9 : Hid _ := K0.out.past hB); clear hB K0 ka0 ka1 ka2 ka3 kb0 kb1 kb2 kb3; obtain ⟨r0, r1, r2, r3, f0, f1, f2, f3⟩ := K9.out.f0 mm0)
  exact bodyPost_ret (v := .tuple #[.agg #[.int .u64 p0, .int .u64 p1, .int .u64 p2, .int .u64 p3], .bool true]) (by simp [results, Tryz.results57, go_sem, r0, r1, r2, r3]) rfl ⟨rfl, below_put K9.out.bel (by omega) _ _ _ _⟩
set_option maxHeartbeats 4000000 in
set_option maxRecDepth 100000 in
theorem rdo_8 (a0 a1 a2 a3 b0 b1 b2 b3 c0 c1 c2 c3 p0 p1 p2 p3 : Int) (X : ∀ W : World, Calls Tryz.prog 35 #[.agg #[.int .u64 a0, .int .u64 a1, .int .u64 a2, .int .u64 a3], .agg #[.int .u64 b0, .int .u64 b1, .int .u64 b2, .int .u64 b3], .agg #[.int .u64 c0, .int .u64 c1, .int .u64 c2, .int .u64 c3]] W fun e w' => e = .returned (.agg #[.int .u64 p0, .int .u64 p1, .int .u64 p2, .int .u64 p3]) ∧ Below W.heap.size W w') (w : World) :
    Calls Tryz.prog 57 #[.int .i64 8, .agg #[.int .u64 a0, .int .u64 a1, .int .u64 a2, .int .u64 a3], .agg #[.int .u64 b0, .int .u64 b1, .int .u64 b2, .int .u64 b3], .agg #[.int .u64 c0, .int .u64 c1, .int .u64 c2, .int .u64 c3]] w fun e w' => e = .returned (.tuple #[.agg #[.int .u64 p0, .int .u64 p1, .int .u64 p2, .int .u64 p3], .bool true]) ∧ Below w.heap.size w w' := by
  have HX : Hid _ := X
  clear X
  go_enter Tryz.func57, Tryz.ntmps57
  go_upto_region 1 with fail
  have K0 : Hid (Bx w [(w.heap.size + 1 + 1 + 1, 0, 0, 0, 0), (w.heap.size + 1 + 1, c0, c1, c2, c3), (w.heap.size + 1, b0, b1, b2, b3), (w.heap.size, a0, a1, a2, a3)] ((((w.alloc (.cells #[.int .u64 a0, .int .u64 a1, .int .u64 a2, .int .u64 a3] 24)).alloc (.cells #[.int .u64 b0, .int .u64 b1, .int .u64 b2, .int .u64 b3] 24)).alloc (.cells #[.int .u64 c0, .int .u64 c1, .int .u64 c2, .int .u64 c3] 24)).alloc (.cells #[.int .u64 0, .int .u64 0, .int .u64 0, .int .u64 0] 24))) := by
    have h := ((((Bx.start w).alloc a0 a1 a2 a3).alloc b0 b1 b2 b3).alloc c0 c1 c2 c3).alloc 0 0 0 0
    (try simp only [World.size_alloc] at h)
    exact h
  generalize ((((w.alloc (.cells #[.int .u64 a0, .int .u64 a1, .int .u64 a2, .int .u64 a3] 24)).alloc (.cells #[.int .u64 b0, .int .u64 b1, .int .u64 b2, .int .u64 b3] 24)).alloc (.cells #[.int .u64 c0, .int .u64 c1, .int .u64 c2, .int .u64 c3] 24)).alloc (.cells #[.int .u64 0, .int .u64 0, .int .u64 0, .int .u64 0] 24)) = W0 at K0 ⊢
  obtain ⟨ka0, ka1, ka2, ka3, _⟩ := K0.out.f0 mm3
  obtain ⟨kb0, kb1, kb2, kb3, _⟩ := K0.out.f0 mm2
  obtain ⟨kc0, kc1, kc2, kc3, _⟩ := K0.out.f0 mm1
  go_wp2_with (go_at_call 35; refine (HX.out _).mono ?_; rintro e x9 ⟨rfl, hB⟩; (have K9 : Hid _ := K0.out.past hB); clear hB K0 ka0 ka1 ka2 ka3 kb0 kb1 kb2 kb3 kc0 kc1 kc2 kc3; obtain ⟨r0, r1, r2, r3, f0, f1, f2, f3⟩ := K9.out.f0 mm0)
  exact bodyPost_ret (v := .tuple #[.agg #[.int .u64 p0, .int .u64 p1, .int .u64 p2, .int .u64 p3], .bool true]) (by simp [results, Tryz.results57, go_sem, r0, r1, r2, r3]) rfl ⟨rfl, below_put K9.out.bel (by omega) _ _ _ _⟩
set_option maxHeartbeats 4000000 in
set_option maxRecDepth 100000 in
theorem rdo_9 (a0 a1 a2 a3 b0 b1 b2 b3 c0 c1 c2 c3 p0 p1 p2 p3 : Int) (X : ∀ W : World, Calls Tryz.prog 37 #[.agg #[.int .u64 a0, .int .u64 a1, .int .u64 a2, .int .u64 a3], .agg #[.int .u64 b0, .int .u64 b1, .int .u64 b2, .int .u64 b3], .agg #[.int .u64 c0, .int .u64 c1, .int .u64 c2, .int .u64 c3]] W fun e w' => e = .returned (.agg #[.int .u64 p0, .int .u64 p1, .int .u64 p2, .int .u64 p3]) ∧ Below W.heap.size W w') (w : World) :
    Calls Tryz.prog 57 #[.int .i64 9, .agg #[.int .u64 a0, .int .u64 a1, .int .u64 a2, .int .u64 a3], .agg #[.int .u64 b0, .int .u64 b1, .int .u64 b2, .int .u64 b3], .agg #[.int .u64 c0, .int .u64 c1, .int .u64 c2, .int .u64 c3]] w fun e w' => e = .returned (.tuple #[.agg #[.int .u64 p0, .int .u64 p1, .int .u64 p2, .int .u64 p3], .bool true]) ∧ Below w.heap.size w w' := by
  have HX : Hid _ := X
  clear X
  go_enter Tryz.func57, Tryz.ntmps57
  go_upto_region 1 with fail
  have K0 : Hid (Bx w [(w.heap.size + 1 + 1 + 1, 0, 0, 0, 0), (w.heap.size + 1 + 1, c0, c1, c2, c3), (w.heap.size + 1, b0, b1, b2, b3), (w.heap.size, a0, a1, a2, a3)] ((((w.alloc (.cells #[.int .u64 a0, .int .u64 a1, .int .u64 a2, .int .u64 a3] 24)).alloc (.cells #[.int .u64 b0, .int .u64 b1, .int .u64 b2, .int .u64 b3] 24)).alloc (.cells #[.int .u64 c0, .int .u64 c1, .int .u64 c2, .int .u64 c3] 24)).alloc (.cells #[.int .u64 0, .int .u64 0, .int .u64 0, .int .u64 0] 24))) := by
    have h := ((((Bx.start w).alloc a0 a1 a2 a3).alloc b0 b1 b2 b3).alloc c0 c1 c2 c3).alloc 0 0 0 0
    (try simp only [World.size_alloc] at h)
    exact h
  generalize ((((w.alloc (.cells #[.int .u64 a0, .int .u64 a1, .int .u64 a2, .int .u64 a3] 24)).alloc (.cells #[.int .u64 b0, .int .u64 b1, .int .u64 b2, .int .u64 b3] 24)).alloc (.cells #[.int .u64 c0, .int .u64 c1, .int .u64 c2, .int .u64 c3] 24)).alloc (.cells #[.int .u64 0, .int .u64 0, .int .u64 0, .int .u64 0] 24)) = W0 at K0 ⊢
  obtain ⟨ka0, ka1, ka2, ka3, _⟩ := K0.out.f0 mm3
  obtain ⟨kb0, kb1, kb2, kb3, _⟩ := K0.out.f0 mm2
  obtain ⟨kc0, kc1, kc2, kc3, _⟩ := K0.out.f0 mm1
  go_wp2_with (go_at_call 37; refine (HX.out _).mono ?_; rintro e x9 ⟨rfl, hB⟩; (have K9 : Hid _ := K0.out.past hB); clear hB K0 ka0 ka1 ka2 ka3 kb0 kb1 kb2 kb3 kc0 kc1 kc2 kc3; obtain ⟨r0, r1, r2, r3, f0, f1, f2, f3⟩ := K9.out.f0 mm0)
  exact bodyPost_ret (v := .tuple #[.agg #[.int .u64 p0, .int .u64 p1, .int .u64 p2, .int .u64 p3], .bool true]) (by simp [results, Tryz.results57, go_sem, r0, r1, r2, r3]) rfl ⟨rfl, below_put K9.out.bel (by omega) _ _ _ _⟩
set_option maxHeartbeats 4000000 in
set_option maxRecDepth 100000 in
theorem rdo_10 (a0 a1 a2 a3 b0 b1 b2 b3 c0 c1 c2 c3 p0 p1 p2 p3 : Int) (X : ∀ W : World, Calls Tryz.prog 112 #[.agg #[.int .u64 a0, .int .u64 a1, .int .u64 a2, .int .u64 a3], .agg #[.int .u64 b0, .int .u64 b1, .int .u64 b2, .int .u64 b3]] W fun e w' => e = .returned (.agg #[.int .u64 p0, .int .u64 p1, .int .u64 p2, .int .u64 p3]) ∧ Below W.heap.size W w') (w : World) :
    Calls Tryz.prog 57 #[.int .i64 10, .agg #[.int .u64 a0, .int .u64 a1, .int .u64 a2, .int .u64 a3], .agg #[.int .u64 b0, .int .u64 b1, .int .u64 b2, .int .u64 b3], .agg #[.int .u64 c0, .int .u64 c1, .int .u64 c2, .int .u64 c3]] w fun e w' => e = .returned (.tuple #[.agg #[.int .u64 p0, .int .u64 p1, .int .u64 p2, .int .u64 p3], .bool true]) ∧ Below w.heap.size w w' := by
  have HX : Hid _ := X
  clear X
  go_enter Tryz.func57, Tryz.ntmps57
  go_upto_region 1 with fail
  have K0 : Hid (Bx w [(w.heap.size + 1 + 1 + 1, 0, 0, 0, 0), (w.heap.size + 1 + 1, c0, c1, c2, c3), (w.heap.size + 1, b0, b1, b2, b3), (w.heap.size, a0, a1, a2, a3)] ((((w.alloc (.cells #[.int .u64 a0, .int .u64 a1, .int .u64 a2, .int .u64 a3] 24)).alloc (.cells #[.int .u64 b0, .int .u64 b1, .int .u64 b2, .int .u64 b3] 24)).alloc (.cells #[.int .u64 c0, .int .u64 c1, .int .u64 c2, .int .u64 c3] 24)).alloc (.cells #[.int .u64 0, .int .u64 0, .int .u64 0, .int .u64 0] 24))) := by
    have h := ((((Bx.start w).alloc a0 a1 a2 a3).alloc b0 b1 b2 b3).alloc c0 c1 c2 c3).alloc 0 0 0 0
    (try simp only [World.size_alloc] at h)
    exact h
  generalize ((((w.alloc (.cells #[.int .u64 a0, .int .u64 a1, .int .u64 a2, .int .u64 a3] 24)).alloc (.cells #[.int .u64 b0, .int .u64 b1, .int .u64 b2, .int .u64 b3] 24)).alloc (.cells #[.int .u64 c0, .int .u64 c1, .int .u64 c2, .int .u64 c3] 24)).alloc (.cells #[.int .u64 0, .int .u64 0, .int .u64 0, .int .u64 0] 24)) = W0 at K0 ⊢
  obtain ⟨ka0, ka1, ka2, ka3, _⟩ := K0.out.f0 mm3
  obtain ⟨kb0, kb1, kb2, kb3, _⟩ := K0.out.f0 mm2
  go_wp2_with (go_at_call 112; refine (HX.out _).mono ?_; rintro e x9 ⟨rfl, hB⟩; (have K9 : Hid _ := K0.out.past hB); clear hB K0 ka0 ka1 ka2 ka3 kb0 kb1 kb2 kb3; obtain ⟨r0, r1, r2, r3, f0, f1, f2, f3⟩ := K9.out.f0 mm0)
  exact bodyPost_ret (v := .tuple #[.agg #[.int .u64 p0, .int .u64 p1, .int .u64 p2, .int .u64 p3], .bool true]) (by simp [results, Tryz.results57, go_sem, r0, r1, r2, r3]) rfl ⟨rfl, below_put K9.out.bel (by omega) _ _ _ _⟩
set_option maxHeartbeats 4000000 in
set_option maxRecDepth 100000 in
theorem rdo_11 (a0 a1 a2 a3 b0 b1 b2 b3 c0 c1 c2 c3 p0 p1 p2 p3 : Int) (X : ∀ W : World, Calls Tryz.prog 33 #[.agg #[.int .u64 a0, .int .u64 a1, .int .u64 a2, .int .u64 a3], .agg #[.int .u64 b0, .int .u64 b1, .int .u64 b2, .int .u64 b3]] W fun e w' => e = .returned (.agg #[.int .u64 p0, .int .u64 p1, .int .u64 p2, .int .u64 p3]) ∧ Below W.heap.size W w') (w : World) :
    Calls Tryz.prog 57 #[.int .i64 11, .agg #[.int .u64 a0, .int .u64 a1, .int .u64 a2, .int .u64 a3], .agg #[.int .u64 b0, .int .u64 b1, .int .u64 b2, .int .u64 b3], .agg #[.int .u64 c0, .int .u64 c1, .int .u64 c2, .int .u64 c3]] w fun e w' => e = .returned (.tuple #[.agg #[.int .u64 p0, .int .u64 p1, .int .u64 p2, .int .u64 p3], .bool true]) ∧ Below w.heap.size w w' := by
  have HX : Hid _ := X
  clear X
  go_enter Tryz.func57, Tryz.ntmps57
  go_upto_region 1 with fail
  have K0 : Hid (Bx w [(w.heap.size + 1 + 1 + 1, 0, 0, 0, 0), (w.heap.size + 1 + 1, c0, c1, c2, c3), (w.heap.size + 1, b0, b1, b2, b3), (w.heap.size, a0, a1, a2, a3)] ((((w.alloc (.cells #[.int .u64 a0, .int .u64 a1, .int .u64 a2, .int .u64 a3] 24)).alloc (.cells #[.int .u64 b0, .int .u64 b1, .int .u64 b2, .int .u64 b3] 24)).alloc (.cells #[.int .u64 c0, .int .u64 c1, .int .u64 c2, .int .u64 c3] 24)).alloc (.cells #[.int .u64 0, .int .u64 0, .int .u64 0, .int .u64 0] 24))) := by
    have h := ((((Bx.start w).alloc a0 a1 a2 a3).alloc b0 b1 b2 b3).alloc c0 c1 c2 c3).alloc 0 0 0 0
    (try simp only [World.size_alloc] at h)
    exact h
  generalize ((((w.alloc (.cells #[.int .u64 a0, .int .u64 a1, .int .u64 a2, .int .u64 a3] 24)).alloc (.cells #[.int .u64 b0, .int .u64 b1, .int .u64 b2, .int .u64 b3] 24)).alloc (.cells #[.int .u64 c0, .int .u64 c1, .int .u64 c2, .int .u64 c3] 24)).alloc (.cells #[.int .u64 0, .int .u64 0, .int .u64 0, .int .u64 0] 24)) = W0 at K0 ⊢
  obtain ⟨ka0, ka1, ka2, ka3, _⟩ := K0.out.f0 mm3
  obtain ⟨kb0, kb1, kb2, kb3, _⟩ := K0.out.f0 mm2
  go_wp2_with (go_at_call 33; refine (HX.out _).mono ?_; rintro e x9 ⟨rfl, hB⟩; (have K9 : Hid _ := K0.out.past hB); clear hB K0 ka0 ka1 ka2 ka3 kb0 kb1 kb2 kb3; obtain ⟨r0, r1, r2, r3, f0, f1, f2, f3⟩ := K9.out.f0 mm0)
  exact bodyPost_ret (v := .tuple #[.agg #[.int .u64 p0, .int .u64 p1, .int .u64 p2, .int .u64 p3], .bool true]) (by simp [results, Tryz.results57, go_sem, r0, r1, r2, r3]) rfl ⟨rfl, below_put K9.out.bel (by omega) _ _ _ _⟩
set_option maxHeartbeats 4000000 in
set_option maxRecDepth 100000 in
theorem rdo_more (a0 a1 a2 a3 b0 b1 b2 b3 c0 c1 c2 c3 p0 p1 p2 p3 : Int) (i : Int) (r : Bool) (X : ∀ W : World, Calls Tryz.prog 113 #[.int .i64 i, .agg #[.int .u64 a0, .int .u64 a1, .int .u64 a2, .int .u64 a3], .agg #[.int .u64 b0, .int .u64 b1, .int .u64 b2, .int .u64 b3]] W fun e w' => e = .returned (.tuple #[.agg #[.int .u64 p0, .int .u64 p1, .int .u64 p2, .int .u64 p3], .bool r]) ∧ Below W.heap.size W w') (N1 : (i == 1) = false) (N2 : (i == 2) = false) (N3 : (i == 3) = false) (N4 : (i == 4) = false) (N5 : (i == 5) = false) (N6 : (i == 6) = false) (N7 : (i == 7) = false) (N8 : (i == 8) = false) (N9 : (i == 9) = false) (N10 : (i == 10) = false) (N11 : (i == 11) = false) (w : World) :
    Calls Tryz.prog 57 #[.int .i64 i, .agg #[.int .u64 a0, .int .u64 a1, .int .u64 a2, .int .u64 a3], .agg #[.int .u64 b0, .int .u64 b1, .int .u64 b2, .int .u64 b3], .agg #[.int .u64 c0, .int .u64 c1, .int .u64 c2, .int .u64 c3]] w fun e w' => e = .returned (.tuple #[.agg #[.int .u64 p0, .int .u64 p1, .int .u64 p2, .int .u64 p3], .bool r]) ∧ Below w.heap.size w w' := by
  have HX : Hid _ := X
  clear X
  have M1 : ¬ i = 1 := by simpa using N1
  have M2 : ¬ i = 2 := by simpa using N2
  have M3 : ¬ i = 3 := by simpa using N3
  have M4 : ¬ i = 4 := by simpa using N4
  have M5 : ¬ i = 5 := by simpa using N5
  have M6 : ¬ i = 6 := by simpa using N6
  have M7 : ¬ i = 7 := by simpa using N7
  have M8 : ¬ i = 8 := by simpa using N8
  have M9 : ¬ i = 9 := by simpa using N9
  have M10 : ¬ i = 10 := by simpa using N10
  have M11 : ¬ i = 11 := by simpa using N11
  go_enter Tryz.func57, Tryz.ntmps57
  go_upto_region 1 with fail
  have K0 : Hid (Bx w [(w.heap.size + 1 + 1 + 1, 0, 0, 0, 0), (w.heap.size + 1 + 1, c0, c1, c2, c3), (w.heap.size + 1, b0, b1, b2, b3), (w.heap.size, a0, a1, a2, a3)] ((((w.alloc (.cells #[.int .u64 a0, .int .u64 a1, .int .u64 a2, .int .u64 a3] 24)).alloc (.cells #[.int .u64 b0, .int .u64 b1, .int .u64 b2, .int .u64 b3] 24)).alloc (.cells #[.int .u64 c0, .int .u64 c1, .int .u64 c2, .int .u64 c3] 24)).alloc (.cells #[.int .u64 0, .int .u64 0, .int .u64 0, .int .u64 0] 24))) := by
    have h := ((((Bx.start w).alloc a0 a1 a2 a3).alloc b0 b1 b2 b3).alloc c0 c1 c2 c3).alloc 0 0 0 0
    (try simp only [World.size_alloc] at h)
    exact h
  generalize ((((w.alloc (.cells #[.int .u64 a0, .int .u64 a1, .int .u64 a2, .int .u64 a3] 24)).alloc (.cells #[.int .u64 b0, .int .u64 b1, .int .u64 b2, .int .u64 b3] 24)).alloc (.cells #[.int .u64 c0, .int .u64 c1, .int .u64 c2, .int .u64 c3] 24)).alloc (.cells #[.int .u64 0, .int .u64 0, .int .u64 0, .int .u64 0] 24)) = W0 at K0 ⊢
  obtain ⟨ka0, ka1, ka2, ka3, _⟩ := K0.out.f0 mm3
  obtain ⟨kb0, kb1, kb2, kb3, _⟩ := K0.out.f0 mm2
  go_wp2_with (go_at_call 113; refine (HX.out _).mono ?_; rintro e x9 ⟨rfl, hB⟩; (have K9 : Hid _ := K0.out.past hB); clear hB K0 ka0 ka1 ka2 ka3 kb0 kb1 kb2 kb3; obtain ⟨r0, r1, r2, r3, f0, f1, f2, f3⟩ := K9.out.f0 mm0)
  exact bodyPost_ret (v := .tuple #[.agg #[.int .u64 p0, .int .u64 p1, .int .u64 p2, .int .u64 p3], .bool r]) (by simp [results, Tryz.results57, go_sem, r0, r1, r2, r3]) rfl ⟨rfl, below_put K9.out.bel (by omega) _ _ _ _⟩
end Go.Proofs.YtpadpmkfhljiiaaGreat
/- The document's Do, code by code (1). -/
namespace Go.Proofs.YtpadpmkfhljiiaaGreat
open Go.RowKit
set_option maxHeartbeats 4000000 in
set_option maxRecDepth 100000 in
theorem rmore_16 (a0 a1 a2 a3 b0 b1 b2 b3 p0 p1 p2 p3 : Int) (r : Bool) (X : ∀ W : World, Calls Tryz.prog 166 #[.agg #[.int .u64 a0, .int .u64 a1, .int .u64 a2, .int .u64 a3], .agg #[.int .u64 b0, .int .u64 b1, .int .u64 b2, .int .u64 b3]] W fun e w' => e = .returned (.bool r) ∧ Below W.heap.size W w') (TR : ∀ W : World, Calls Tryz.prog 165 #[.bool r] W fun e w' => e = .returned (.agg #[.int .u64 p0, .int .u64 p1, .int .u64 p2, .int .u64 p3]) ∧ Below W.heap.size W w') (w : World) :
    Calls Tryz.prog 113 #[.int .i64 16, .agg #[.int .u64 a0, .int .u64 a1, .int .u64 a2, .int .u64 a3], .agg #[.int .u64 b0, .int .u64 b1, .int .u64 b2, .int .u64 b3]] w fun e w' => e = .returned (.tuple #[.agg #[.int .u64 p0, .int .u64 p1, .int .u64 p2, .int .u64 p3], .bool true]) ∧ Below w.heap.size w w' := by
  have HX : Hid _ := X
  have HTR : Hid _ := TR
  clear X TR
  go_enter Tryz.func113, Tryz.ntmps113
  go_upto_region 1 with fail
  have K0 : Hid (Bx w [(w.heap.size + 1 + 1, 0, 0, 0, 0), (w.heap.size + 1, b0, b1, b2, b3), (w.heap.size, a0, a1, a2, a3)] (((w.alloc (.cells #[.int .u64 a0, .int .u64 a1, .int .u64 a2, .int .u64 a3] 24)).alloc (.cells #[.int .u64 b0, .int .u64 b1, .int .u64 b2, .int .u64 b3] 24)).alloc (.cells #[.int .u64 0, .int .u64 0, .int .u64 0, .int .u64 0] 24))) := by
    have h := (((Bx.start w).alloc a0 a1 a2 a3).alloc b0 b1 b2 b3).alloc 0 0 0 0
    (try simp only [World.size_alloc] at h)
    exact h
  generalize (((w.alloc (.cells #[.int .u64 a0, .int .u64 a1, .int .u64 a2, .int .u64 a3] 24)).alloc (.cells #[.int .u64 b0, .int .u64 b1, .int .u64 b2, .int .u64 b3] 24)).alloc (.cells #[.int .u64 0, .int .u64 0, .int .u64 0, .int .u64 0] 24)) = W0 at K0 ⊢
  obtain ⟨ka0, ka1, ka2, ka3, _⟩ := K0.out.f0 mm2
  obtain ⟨kb0, kb1, kb2, kb3, _⟩ := K0.out.f0 mm1
  go_wp2_with (first | (go_at_call 166; refine (HX.out _).mono ?_; rintro e x8 ⟨rfl, hB⟩; (have K8 : Hid _ := K0.out.past hB); clear hB K0 ka0 ka1 ka2 ka3 kb0 kb1 kb2 kb3) | (go_at_call 165; refine (HTR.out _).mono ?_; rintro e x9 ⟨rfl, hB⟩; (have K9 : Hid _ := K8.out.past hB); clear hB K8; obtain ⟨r0, r1, r2, r3, f0, f1, f2, f3⟩ := K9.out.f0 mm0))
  exact bodyPost_ret (v := .tuple #[.agg #[.int .u64 p0, .int .u64 p1, .int .u64 p2, .int .u64 p3], .bool true]) (by simp [results, Tryz.results113, go_sem, r0, r1, r2, r3]) rfl ⟨rfl, below_put K9.out.bel (by omega) _ _ _ _⟩
set_option maxHeartbeats 4000000 in
set_option maxRecDepth 100000 in
theorem rmore_17 (a0 a1 a2 a3 b0 b1 b2 b3 p0 p1 p2 p3 : Int) (r : Bool) (X : ∀ W : World, Calls Tryz.prog 167 #[.agg #[.int .u64 a0, .int .u64 a1, .int .u64 a2, .int .u64 a3], .agg #[.int .u64 b0, .int .u64 b1, .int .u64 b2, .int .u64 b3]] W fun e w' => e = .returned (.bool r) ∧ Below W.heap.size W w') (TR : ∀ W : World, Calls Tryz.prog 165 #[.bool r] W fun e w' => e = .returned (.agg #[.int .u64 p0, .int .u64 p1, .int .u64 p2, .int .u64 p3]) ∧ Below W.heap.size W w') (w : World) :
    Calls Tryz.prog 113 #[.int .i64 17, .agg #[.int .u64 a0, .int .u64 a1, .int .u64 a2, .int .u64 a3], .agg #[.int .u64 b0, .int .u64 b1, .int .u64 b2, .int .u64 b3]] w fun e w' => e = .returned (.tuple #[.agg #[.int .u64 p0, .int .u64 p1, .int .u64 p2, .int .u64 p3], .bool true]) ∧ Below w.heap.size w w' := by
  have HX : Hid _ := X
  have HTR : Hid _ := TR
  clear X TR
  go_enter Tryz.func113, Tryz.ntmps113
  go_upto_region 1 with fail
  have K0 : Hid (Bx w [(w.heap.size + 1 + 1, 0, 0, 0, 0), (w.heap.size + 1, b0, b1, b2, b3), (w.heap.size, a0, a1, a2, a3)] (((w.alloc (.cells #[.int .u64 a0, .int .u64 a1, .int .u64 a2, .int .u64 a3] 24)).alloc (.cells #[.int .u64 b0, .int .u64 b1, .int .u64 b2, .int .u64 b3] 24)).alloc (.cells #[.int .u64 0, .int .u64 0, .int .u64 0, .int .u64 0] 24))) := by
    have h := (((Bx.start w).alloc a0 a1 a2 a3).alloc b0 b1 b2 b3).alloc 0 0 0 0
    (try simp only [World.size_alloc] at h)
    exact h
  generalize (((w.alloc (.cells #[.int .u64 a0, .int .u64 a1, .int .u64 a2, .int .u64 a3] 24)).alloc (.cells #[.int .u64 b0, .int .u64 b1, .int .u64 b2, .int .u64 b3] 24)).alloc (.cells #[.int .u64 0, .int .u64 0, .int .u64 0, .int .u64 0] 24)) = W0 at K0 ⊢
  obtain ⟨ka0, ka1, ka2, ka3, _⟩ := K0.out.f0 mm2
  obtain ⟨kb0, kb1, kb2, kb3, _⟩ := K0.out.f0 mm1
  go_wp2_with (first | (go_at_call 167; refine (HX.out _).mono ?_; rintro e x8 ⟨rfl, hB⟩; (have K8 : Hid _ := K0.out.past hB); clear hB K0 ka0 ka1 ka2 ka3 kb0 kb1 kb2 kb3) | (go_at_call 165; refine (HTR.out _).mono ?_; rintro e x9 ⟨rfl, hB⟩; (have K9 : Hid _ := K8.out.past hB); clear hB K8; obtain ⟨r0, r1, r2, r3, f0, f1, f2, f3⟩ := K9.out.f0 mm0))
  exact bodyPost_ret (v := .tuple #[.agg #[.int .u64 p0, .int .u64 p1, .int .u64 p2, .int .u64 p3], .bool true]) (by simp [results, Tryz.results113, go_sem, r0, r1, r2, r3]) rfl ⟨rfl, below_put K9.out.bel (by omega) _ _ _ _⟩
set_option maxHeartbeats 4000000 in
set_option maxRecDepth 100000 in
theorem rmore_18 (a0 a1 a2 a3 b0 b1 b2 b3 p0 p1 p2 p3 : Int) (r : Bool) (X : ∀ W : World, Calls Tryz.prog 27 #[.agg #[.int .u64 a0, .int .u64 a1, .int .u64 a2, .int .u64 a3], .agg #[.int .u64 b0, .int .u64 b1, .int .u64 b2, .int .u64 b3]] W fun e w' => e = .returned (.bool r) ∧ Below W.heap.size W w') (TR : ∀ W : World, Calls Tryz.prog 165 #[.bool r] W fun e w' => e = .returned (.agg #[.int .u64 p0, .int .u64 p1, .int .u64 p2, .int .u64 p3]) ∧ Below W.heap.size W w') (w : World) :
    Calls Tryz.prog 113 #[.int .i64 18, .agg #[.int .u64 a0, .int .u64 a1, .int .u64 a2, .int .u64 a3], .agg #[.int .u64 b0, .int .u64 b1, .int .u64 b2, .int .u64 b3]] w fun e w' => e = .returned (.tuple #[.agg #[.int .u64 p0, .int .u64 p1, .int .u64 p2, .int .u64 p3], .bool true]) ∧ Below w.heap.size w w' := by
  have HX : Hid _ := X
  have HTR : Hid _ := TR
  clear X TR
  go_enter Tryz.func113, Tryz.ntmps113
  go_upto_region 1 with fail
  have K0 : Hid (Bx w [(w.heap.size + 1 + 1, 0, 0, 0, 0), (w.heap.size + 1, b0, b1, b2, b3), (w.heap.size, a0, a1, a2, a3)] (((w.alloc (.cells #[.int .u64 a0, .int .u64 a1, .int .u64 a2, .int .u64 a3] 24)).alloc (.cells #[.int .u64 b0, .int .u64 b1, .int .u64 b2, .int .u64 b3] 24)).alloc (.cells #[.int .u64 0, .int .u64 0, .int .u64 0, .int .u64 0] 24))) := by
    have h := (((Bx.start w).alloc a0 a1 a2 a3).alloc b0 b1 b2 b3).alloc 0 0 0 0
    (try simp only [World.size_alloc] at h)
    exact h
  generalize (((w.alloc (.cells #[.int .u64 a0, .int .u64 a1, .int .u64 a2, .int .u64 a3] 24)).alloc (.cells #[.int .u64 b0, .int .u64 b1, .int .u64 b2, .int .u64 b3] 24)).alloc (.cells #[.int .u64 0, .int .u64 0, .int .u64 0, .int .u64 0] 24)) = W0 at K0 ⊢
  obtain ⟨ka0, ka1, ka2, ka3, _⟩ := K0.out.f0 mm2
  obtain ⟨kb0, kb1, kb2, kb3, _⟩ := K0.out.f0 mm1
  go_wp2_with (first | (go_at_call 27; refine (HX.out _).mono ?_; rintro e x8 ⟨rfl, hB⟩; (have K8 : Hid _ := K0.out.past hB); clear hB K0 ka0 ka1 ka2 ka3 kb0 kb1 kb2 kb3) | (go_at_call 165; refine (HTR.out _).mono ?_; rintro e x9 ⟨rfl, hB⟩; (have K9 : Hid _ := K8.out.past hB); clear hB K8; obtain ⟨r0, r1, r2, r3, f0, f1, f2, f3⟩ := K9.out.f0 mm0))
  exact bodyPost_ret (v := .tuple #[.agg #[.int .u64 p0, .int .u64 p1, .int .u64 p2, .int .u64 p3], .bool true]) (by simp [results, Tryz.results113, go_sem, r0, r1, r2, r3]) rfl ⟨rfl, below_put K9.out.bel (by omega) _ _ _ _⟩
set_option maxHeartbeats 4000000 in
set_option maxRecDepth 100000 in
theorem rmore_19 (a0 a1 a2 a3 b0 b1 b2 b3 p0 p1 p2 p3 : Int) (r : Bool) (X : ∀ W : World, Calls Tryz.prog 29 #[.agg #[.int .u64 a0, .int .u64 a1, .int .u64 a2, .int .u64 a3], .agg #[.int .u64 b0, .int .u64 b1, .int .u64 b2, .int .u64 b3]] W fun e w' => e = .returned (.bool r) ∧ Below W.heap.size W w') (TR : ∀ W : World, Calls Tryz.prog 165 #[.bool r] W fun e w' => e = .returned (.agg #[.int .u64 p0, .int .u64 p1, .int .u64 p2, .int .u64 p3]) ∧ Below W.heap.size W w') (w : World) :
    Calls Tryz.prog 113 #[.int .i64 19, .agg #[.int .u64 a0, .int .u64 a1, .int .u64 a2, .int .u64 a3], .agg #[.int .u64 b0, .int .u64 b1, .int .u64 b2, .int .u64 b3]] w fun e w' => e = .returned (.tuple #[.agg #[.int .u64 p0, .int .u64 p1, .int .u64 p2, .int .u64 p3], .bool true]) ∧ Below w.heap.size w w' := by
  have HX : Hid _ := X
  have HTR : Hid _ := TR
  clear X TR
  go_enter Tryz.func113, Tryz.ntmps113
  go_upto_region 1 with fail
  have K0 : Hid (Bx w [(w.heap.size + 1 + 1, 0, 0, 0, 0), (w.heap.size + 1, b0, b1, b2, b3), (w.heap.size, a0, a1, a2, a3)] (((w.alloc (.cells #[.int .u64 a0, .int .u64 a1, .int .u64 a2, .int .u64 a3] 24)).alloc (.cells #[.int .u64 b0, .int .u64 b1, .int .u64 b2, .int .u64 b3] 24)).alloc (.cells #[.int .u64 0, .int .u64 0, .int .u64 0, .int .u64 0] 24))) := by
    have h := (((Bx.start w).alloc a0 a1 a2 a3).alloc b0 b1 b2 b3).alloc 0 0 0 0
    (try simp only [World.size_alloc] at h)
    exact h
  generalize (((w.alloc (.cells #[.int .u64 a0, .int .u64 a1, .int .u64 a2, .int .u64 a3] 24)).alloc (.cells #[.int .u64 b0, .int .u64 b1, .int .u64 b2, .int .u64 b3] 24)).alloc (.cells #[.int .u64 0, .int .u64 0, .int .u64 0, .int .u64 0] 24)) = W0 at K0 ⊢
  obtain ⟨ka0, ka1, ka2, ka3, _⟩ := K0.out.f0 mm2
  obtain ⟨kb0, kb1, kb2, kb3, _⟩ := K0.out.f0 mm1
  go_wp2_with (first | (go_at_call 29; refine (HX.out _).mono ?_; rintro e x8 ⟨rfl, hB⟩; (have K8 : Hid _ := K0.out.past hB); clear hB K0 ka0 ka1 ka2 ka3 kb0 kb1 kb2 kb3) | (go_at_call 165; refine (HTR.out _).mono ?_; rintro e x9 ⟨rfl, hB⟩; (have K9 : Hid _ := K8.out.past hB); clear hB K8; obtain ⟨r0, r1, r2, r3, f0, f1, f2, f3⟩ := K9.out.f0 mm0))
  exact bodyPost_ret (v := .tuple #[.agg #[.int .u64 p0, .int .u64 p1, .int .u64 p2, .int .u64 p3], .bool true]) (by simp [results, Tryz.results113, go_sem, r0, r1, r2, r3]) rfl ⟨rfl, below_put K9.out.bel (by omega) _ _ _ _⟩
set_option maxHeartbeats 4000000 in
set_option maxRecDepth 100000 in
theorem rmore_20 (a0 a1 a2 a3 b0 b1 b2 b3 p0 p1 p2 p3 : Int) (r : Bool) (X : ∀ W : World, Calls Tryz.prog 168 #[.agg #[.int .u64 a0, .int .u64 a1, .int .u64 a2, .int .u64 a3], .agg #[.int .u64 b0, .int .u64 b1, .int .u64 b2, .int .u64 b3]] W fun e w' => e = .returned (.bool r) ∧ Below W.heap.size W w') (TR : ∀ W : World, Calls Tryz.prog 165 #[.bool r] W fun e w' => e = .returned (.agg #[.int .u64 p0, .int .u64 p1, .int .u64 p2, .int .u64 p3]) ∧ Below W.heap.size W w') (w : World) :
    Calls Tryz.prog 113 #[.int .i64 20, .agg #[.int .u64 a0, .int .u64 a1, .int .u64 a2, .int .u64 a3], .agg #[.int .u64 b0, .int .u64 b1, .int .u64 b2, .int .u64 b3]] w fun e w' => e = .returned (.tuple #[.agg #[.int .u64 p0, .int .u64 p1, .int .u64 p2, .int .u64 p3], .bool true]) ∧ Below w.heap.size w w' := by
  have HX : Hid _ := X
  have HTR : Hid _ := TR
  clear X TR
  go_enter Tryz.func113, Tryz.ntmps113
  go_upto_region 1 with fail
  have K0 : Hid (Bx w [(w.heap.size + 1 + 1, 0, 0, 0, 0), (w.heap.size + 1, b0, b1, b2, b3), (w.heap.size, a0, a1, a2, a3)] (((w.alloc (.cells #[.int .u64 a0, .int .u64 a1, .int .u64 a2, .int .u64 a3] 24)).alloc (.cells #[.int .u64 b0, .int .u64 b1, .int .u64 b2, .int .u64 b3] 24)).alloc (.cells #[.int .u64 0, .int .u64 0, .int .u64 0, .int .u64 0] 24))) := by
    have h := (((Bx.start w).alloc a0 a1 a2 a3).alloc b0 b1 b2 b3).alloc 0 0 0 0
    (try simp only [World.size_alloc] at h)
    exact h
  generalize (((w.alloc (.cells #[.int .u64 a0, .int .u64 a1, .int .u64 a2, .int .u64 a3] 24)).alloc (.cells #[.int .u64 b0, .int .u64 b1, .int .u64 b2, .int .u64 b3] 24)).alloc (.cells #[.int .u64 0, .int .u64 0, .int .u64 0, .int .u64 0] 24)) = W0 at K0 ⊢
  obtain ⟨ka0, ka1, ka2, ka3, _⟩ := K0.out.f0 mm2
  obtain ⟨kb0, kb1, kb2, kb3, _⟩ := K0.out.f0 mm1
  go_wp2_with (first | (go_at_call 168; refine (HX.out _).mono ?_; rintro e x8 ⟨rfl, hB⟩; (have K8 : Hid _ := K0.out.past hB); clear hB K0 ka0 ka1 ka2 ka3 kb0 kb1 kb2 kb3) | (go_at_call 165; refine (HTR.out _).mono ?_; rintro e x9 ⟨rfl, hB⟩; (have K9 : Hid _ := K8.out.past hB); clear hB K8; obtain ⟨r0, r1, r2, r3, f0, f1, f2, f3⟩ := K9.out.f0 mm0))
  exact bodyPost_ret (v := .tuple #[.agg #[.int .u64 p0, .int .u64 p1, .int .u64 p2, .int .u64 p3], .bool true]) (by simp [results, Tryz.results113, go_sem, r0, r1, r2, r3]) rfl ⟨rfl, below_put K9.out.bel (by omega) _ _ _ _⟩
set_option maxHeartbeats 4000000 in
set_option maxRecDepth 100000 in
theorem rmore_21 (a0 a1 a2 a3 b0 b1 b2 b3 p0 p1 p2 p3 : Int) (r : Bool) (X : ∀ W : World, Calls Tryz.prog 169 #[.agg #[.int .u64 a0, .int .u64 a1, .int .u64 a2, .int .u64 a3]] W fun e w' => e = .returned (.bool r) ∧ Below W.heap.size W w') (TR : ∀ W : World, Calls Tryz.prog 165 #[.bool r] W fun e w' => e = .returned (.agg #[.int .u64 p0, .int .u64 p1, .int .u64 p2, .int .u64 p3]) ∧ Below W.heap.size W w') (w : World) :
    Calls Tryz.prog 113 #[.int .i64 21, .agg #[.int .u64 a0, .int .u64 a1, .int .u64 a2, .int .u64 a3], .agg #[.int .u64 b0, .int .u64 b1, .int .u64 b2, .int .u64 b3]] w fun e w' => e = .returned (.tuple #[.agg #[.int .u64 p0, .int .u64 p1, .int .u64 p2, .int .u64 p3], .bool true]) ∧ Below w.heap.size w w' := by
  have HX : Hid _ := X
  have HTR : Hid _ := TR
  clear X TR
  go_enter Tryz.func113, Tryz.ntmps113
  go_upto_region 1 with fail
  have K0 : Hid (Bx w [(w.heap.size + 1 + 1, 0, 0, 0, 0), (w.heap.size + 1, b0, b1, b2, b3), (w.heap.size, a0, a1, a2, a3)] (((w.alloc (.cells #[.int .u64 a0, .int .u64 a1, .int .u64 a2, .int .u64 a3] 24)).alloc (.cells #[.int .u64 b0, .int .u64 b1, .int .u64 b2, .int .u64 b3] 24)).alloc (.cells #[.int .u64 0, .int .u64 0, .int .u64 0, .int .u64 0] 24))) := by
    have h := (((Bx.start w).alloc a0 a1 a2 a3).alloc b0 b1 b2 b3).alloc 0 0 0 0
    (try simp only [World.size_alloc] at h)
    exact h
  generalize (((w.alloc (.cells #[.int .u64 a0, .int .u64 a1, .int .u64 a2, .int .u64 a3] 24)).alloc (.cells #[.int .u64 b0, .int .u64 b1, .int .u64 b2, .int .u64 b3] 24)).alloc (.cells #[.int .u64 0, .int .u64 0, .int .u64 0, .int .u64 0] 24)) = W0 at K0 ⊢
  obtain ⟨ka0, ka1, ka2, ka3, _⟩ := K0.out.f0 mm2
  go_wp2_with (first | (go_at_call 169; refine (HX.out _).mono ?_; rintro e x8 ⟨rfl, hB⟩; (have K8 : Hid _ := K0.out.past hB); clear hB K0 ka0 ka1 ka2 ka3) | (go_at_call 165; refine (HTR.out _).mono ?_; rintro e x9 ⟨rfl, hB⟩; (have K9 : Hid _ := K8.out.past hB); clear hB K8; obtain ⟨r0, r1, r2, r3, f0, f1, f2, f3⟩ := K9.out.f0 mm0))
  exact bodyPost_ret (v := .tuple #[.agg #[.int .u64 p0, .int .u64 p1, .int .u64 p2, .int .u64 p3], .bool true]) (by simp [results, Tryz.results113, go_sem, r0, r1, r2, r3]) rfl ⟨rfl, below_put K9.out.bel (by omega) _ _ _ _⟩
set_option maxHeartbeats 4000000 in
set_option maxRecDepth 100000 in
theorem rmore_22 (a0 a1 a2 a3 b0 b1 b2 b3 p0 p1 p2 p3 : Int) (X : ∀ W : World, Calls Tryz.prog 39 #[.agg #[.int .u64 a0, .int .u64 a1, .int .u64 a2, .int .u64 a3], .agg #[.int .u64 b0, .int .u64 b1, .int .u64 b2, .int .u64 b3]] W fun e w' => e = .returned (.agg #[.int .u64 p0, .int .u64 p1, .int .u64 p2, .int .u64 p3]) ∧ Below W.heap.size W w') (w : World) :
    Calls Tryz.prog 113 #[.int .i64 22, .agg #[.int .u64 a0, .int .u64 a1, .int .u64 a2, .int .u64 a3], .agg #[.int .u64 b0, .int .u64 b1, .int .u64 b2, .int .u64 b3]] w fun e w' => e = .returned (.tuple #[.agg #[.int .u64 p0, .int .u64 p1, .int .u64 p2, .int .u64 p3], .bool true]) ∧ Below w.heap.size w w' := by
  have HX : Hid _ := X
  clear X
  go_enter Tryz.func113, Tryz.ntmps113
  go_upto_region 1 with fail
  have K0 : Hid (Bx w [(w.heap.size + 1 + 1, 0, 0, 0, 0), (w.heap.size + 1, b0, b1, b2, b3), (w.heap.size, a0, a1, a2, a3)] (((w.alloc (.cells #[.int .u64 a0, .int .u64 a1, .int .u64 a2, .int .u64 a3] 24)).alloc (.cells #[.int .u64 b0, .int .u64 b1, .int .u64 b2, .int .u64 b3] 24)).alloc (.cells #[.int .u64 0, .int .u64 0, .int .u64 0, .int .u64 0] 24))) := by
    have h := (((Bx.start w).alloc a0 a1 a2 a3).alloc b0 b1 b2 b3).alloc 0 0 0 0
    (try simp only [World.size_alloc] at h)
    exact h
  generalize (((w.alloc (.cells #[.int .u64 a0, .int .u64 a1, .int .u64 a2, .int .u64 a3] 24)).alloc (.cells #[.int .u64 b0, .int .u64 b1, .int .u64 b2, .int .u64 b3] 24)).alloc (.cells #[.int .u64 0, .int .u64 0, .int .u64 0, .int .u64 0] 24)) = W0 at K0 ⊢
  obtain ⟨ka0, ka1, ka2, ka3, _⟩ := K0.out.f0 mm2
  obtain ⟨kb0, kb1, kb2, kb3, _⟩ := K0.out.f0 mm1
  go_wp2_with (go_at_call 39; refine (HX.out _).mono ?_; rintro e x9 ⟨rfl, hB⟩; (have K9 : Hid _ := K0.out.past hB); clear hB K0 ka0 ka1 ka2 ka3 kb0 kb1 kb2 kb3; obtain ⟨r0, r1, r2, r3, f0, f1, f2, f3⟩ := K9.out.f0 mm0)
  exact bodyPost_ret (v := .tuple #[.agg #[.int .u64 p0, .int .u64 p1, .int .u64 p2, .int .u64 p3], .bool true]) (by simp [results, Tryz.results113, go_sem, r0, r1, r2, r3]) rfl ⟨rfl, below_put K9.out.bel (by omega) _ _ _ _⟩
set_option maxHeartbeats 4000000 in
set_option maxRecDepth 100000 in
theorem rmore_23 (a0 a1 a2 a3 b0 b1 b2 b3 p0 p1 p2 p3 : Int) (X : ∀ W : World, Calls Tryz.prog 41 #[.agg #[.int .u64 a0, .int .u64 a1, .int .u64 a2, .int .u64 a3], .agg #[.int .u64 b0, .int .u64 b1, .int .u64 b2, .int .u64 b3]] W fun e w' => e = .returned (.agg #[.int .u64 p0, .int .u64 p1, .int .u64 p2, .int .u64 p3]) ∧ Below W.heap.size W w') (w : World) :
    Calls Tryz.prog 113 #[.int .i64 23, .agg #[.int .u64 a0, .int .u64 a1, .int .u64 a2, .int .u64 a3], .agg #[.int .u64 b0, .int .u64 b1, .int .u64 b2, .int .u64 b3]] w fun e w' => e = .returned (.tuple #[.agg #[.int .u64 p0, .int .u64 p1, .int .u64 p2, .int .u64 p3], .bool true]) ∧ Below w.heap.size w w' := by
  have HX : Hid _ := X
  clear X
  go_enter Tryz.func113, Tryz.ntmps113
  go_upto_region 1 with fail
  have K0 : Hid (Bx w [(w.heap.size + 1 + 1, 0, 0, 0, 0), (w.heap.size + 1, b0, b1, b2, b3), (w.heap.size, a0, a1, a2, a3)] (((w.alloc (.cells #[.int .u64 a0, .int .u64 a1, .int .u64 a2, .int .u64 a3] 24)).alloc (.cells #[.int .u64 b0, .int .u64 b1, .int .u64 b2, .int .u64 b3] 24)).alloc (.cells #[.int .u64 0, .int .u64 0, .int .u64 0, .int .u64 0] 24))) := by
    have h := (((Bx.start w).alloc a0 a1 a2 a3).alloc b0 b1 b2 b3).alloc 0 0 0 0
    (try simp only [World.size_alloc] at h)
    exact h
  generalize (((w.alloc (.cells #[.int .u64 a0, .int .u64 a1, .int .u64 a2, .int .u64 a3] 24)).alloc (.cells #[.int .u64 b0, .int .u64 b1, .int .u64 b2, .int .u64 b3] 24)).alloc (.cells #[.int .u64 0, .int .u64 0, .int .u64 0, .int .u64 0] 24)) = W0 at K0 ⊢
  obtain ⟨ka0, ka1, ka2, ka3, _⟩ := K0.out.f0 mm2
  obtain ⟨kb0, kb1, kb2, kb3, _⟩ := K0.out.f0 mm1
  go_wp2_with (go_at_call 41; refine (HX.out _).mono ?_; rintro e x9 ⟨rfl, hB⟩; (have K9 : Hid _ := K0.out.past hB); clear hB K0 ka0 ka1 ka2 ka3 kb0 kb1 kb2 kb3; obtain ⟨r0, r1, r2, r3, f0, f1, f2, f3⟩ := K9.out.f0 mm0)
  exact bodyPost_ret (v := .tuple #[.agg #[.int .u64 p0, .int .u64 p1, .int .u64 p2, .int .u64 p3], .bool true]) (by simp [results, Tryz.results113, go_sem, r0, r1, r2, r3]) rfl ⟨rfl, below_put K9.out.bel (by omega) _ _ _ _⟩
set_option maxHeartbeats 4000000 in
set_option maxRecDepth 100000 in
theorem rmore_24 (a0 a1 a2 a3 b0 b1 b2 b3 p0 p1 p2 p3 : Int) (X : ∀ W : World, Calls Tryz.prog 43 #[.agg #[.int .u64 a0, .int .u64 a1, .int .u64 a2, .int .u64 a3], .agg #[.int .u64 b0, .int .u64 b1, .int .u64 b2, .int .u64 b3]] W fun e w' => e = .returned (.agg #[.int .u64 p0, .int .u64 p1, .int .u64 p2, .int .u64 p3]) ∧ Below W.heap.size W w') (w : World) :
    Calls Tryz.prog 113 #[.int .i64 24, .agg #[.int .u64 a0, .int .u64 a1, .int .u64 a2, .int .u64 a3], .agg #[.int .u64 b0, .int .u64 b1, .int .u64 b2, .int .u64 b3]] w fun e w' => e = .returned (.tuple #[.agg #[.int .u64 p0, .int .u64 p1, .int .u64 p2, .int .u64 p3], .bool true]) ∧ Below w.heap.size w w' := by
  have HX : Hid _ := X
  clear X
  go_enter Tryz.func113, Tryz.ntmps113
  go_upto_region 1 with fail
  have K0 : Hid (Bx w [(w.heap.size + 1 + 1, 0, 0, 0, 0), (w.heap.size + 1, b0, b1, b2, b3), (w.heap.size, a0, a1, a2, a3)] (((w.alloc (.cells #[.int .u64 a0, .int .u64 a1, .int .u64 a2, .int .u64 a3] 24)).alloc (.cells #[.int .u64 b0, .int .u64 b1, .int .u64 b2, .int .u64 b3] 24)).alloc (.cells #[.int .u64 0, .int .u64 0, .int .u64 0, .int .u64 0] 24))) := by
    have h := (((Bx.start w).alloc a0 a1 a2 a3).alloc b0 b1 b2 b3).alloc 0 0 0 0
    (try simp only [World.size_alloc] at h)
    exact h
  generalize (((w.alloc (.cells #[.int .u64 a0, .int .u64 a1, .int .u64 a2, .int .u64 a3] 24)).alloc (.cells #[.int .u64 b0, .int .u64 b1, .int .u64 b2, .int .u64 b3] 24)).alloc (.cells #[.int .u64 0, .int .u64 0, .int .u64 0, .int .u64 0] 24)) = W0 at K0 ⊢
  obtain ⟨ka0, ka1, ka2, ka3, _⟩ := K0.out.f0 mm2
  obtain ⟨kb0, kb1, kb2, kb3, _⟩ := K0.out.f0 mm1
  go_wp2_with (go_at_call 43; refine (HX.out _).mono ?_; rintro e x9 ⟨rfl, hB⟩; (have K9 : Hid _ := K0.out.past hB); clear hB K0 ka0 ka1 ka2 ka3 kb0 kb1 kb2 kb3; obtain ⟨r0, r1, r2, r3, f0, f1, f2, f3⟩ := K9.out.f0 mm0)
  exact bodyPost_ret (v := .tuple #[.agg #[.int .u64 p0, .int .u64 p1, .int .u64 p2, .int .u64 p3], .bool true]) (by simp [results, Tryz.results113, go_sem, r0, r1, r2, r3]) rfl ⟨rfl, below_put K9.out.bel (by omega) _ _ _ _⟩
set_option maxHeartbeats 4000000 in
set_option maxRecDepth 100000 in
theorem rmore_25 (a0 a1 a2 a3 b0 b1 b2 b3 p0 p1 p2 p3 : Int) (X : ∀ W : World, Calls Tryz.prog 45 #[.agg #[.int .u64 a0, .int .u64 a1, .int .u64 a2, .int .u64 a3]] W fun e w' => e = .returned (.agg #[.int .u64 p0, .int .u64 p1, .int .u64 p2, .int .u64 p3]) ∧ Below W.heap.size W w') (w : World) :
    Calls Tryz.prog 113 #[.int .i64 25, .agg #[.int .u64 a0, .int .u64 a1, .int .u64 a2, .int .u64 a3], .agg #[.int .u64 b0, .int .u64 b1, .int .u64 b2, .int .u64 b3]] w fun e w' => e = .returned (.tuple #[.agg #[.int .u64 p0, .int .u64 p1, .int .u64 p2, .int .u64 p3], .bool true]) ∧ Below w.heap.size w w' := by
  have HX : Hid _ := X
  clear X
  go_enter Tryz.func113, Tryz.ntmps113
  go_upto_region 1 with fail
  have K0 : Hid (Bx w [(w.heap.size + 1 + 1, 0, 0, 0, 0), (w.heap.size + 1, b0, b1, b2, b3), (w.heap.size, a0, a1, a2, a3)] (((w.alloc (.cells #[.int .u64 a0, .int .u64 a1, .int .u64 a2, .int .u64 a3] 24)).alloc (.cells #[.int .u64 b0, .int .u64 b1, .int .u64 b2, .int .u64 b3] 24)).alloc (.cells #[.int .u64 0, .int .u64 0, .int .u64 0, .int .u64 0] 24))) := by
    have h := (((Bx.start w).alloc a0 a1 a2 a3).alloc b0 b1 b2 b3).alloc 0 0 0 0
    (try simp only [World.size_alloc] at h)
    exact h
  generalize (((w.alloc (.cells #[.int .u64 a0, .int .u64 a1, .int .u64 a2, .int .u64 a3] 24)).alloc (.cells #[.int .u64 b0, .int .u64 b1, .int .u64 b2, .int .u64 b3] 24)).alloc (.cells #[.int .u64 0, .int .u64 0, .int .u64 0, .int .u64 0] 24)) = W0 at K0 ⊢
  obtain ⟨ka0, ka1, ka2, ka3, _⟩ := K0.out.f0 mm2
  go_wp2_with (go_at_call 45; refine (HX.out _).mono ?_; rintro e x9 ⟨rfl, hB⟩; (have K9 : Hid _ := K0.out.past hB); clear hB K0 ka0 ka1 ka2 ka3; obtain ⟨r0, r1, r2, r3, f0, f1, f2, f3⟩ := K9.out.f0 mm0)
  exact bodyPost_ret (v := .tuple #[.agg #[.int .u64 p0, .int .u64 p1, .int .u64 p2, .int .u64 p3], .bool true]) (by simp [results, Tryz.results113, go_sem, r0, r1, r2, r3]) rfl ⟨rfl, below_put K9.out.bel (by omega) _ _ _ _⟩
set_option maxHeartbeats 4000000 in
set_option maxRecDepth 100000 in
theorem rmore_26 (a0 a1 a2 a3 b0 b1 b2 b3 p0 p1 p2 p3 : Int) (X : ∀ W : World, Calls Tryz.prog 47 #[.agg #[.int .u64 a0, .int .u64 a1, .int .u64 a2, .int .u64 a3], .agg #[.int .u64 b0, .int .u64 b1, .int .u64 b2, .int .u64 b3]] W fun e w' => e = .returned (.agg #[.int .u64 p0, .int .u64 p1, .int .u64 p2, .int .u64 p3]) ∧ Below W.heap.size W w') (w : World) :
    Calls Tryz.prog 113 #[.int .i64 26, .agg #[.int .u64 a0, .int .u64 a1, .int .u64 a2, .int .u64 a3], .agg #[.int .u64 b0, .int .u64 b1, .int .u64 b2, .int .u64 b3]] w fun e w' => e = .returned (.tuple #[.agg #[.int .u64 p0, .int .u64 p1, .int .u64 p2, .int .u64 p3], .bool true]) ∧ Below w.heap.size w w' := by
  have HX : Hid _ := X
  clear X
  go_enter Tryz.func113, Tryz.ntmps113
  go_upto_region 1 with fail
  have K0 : Hid (Bx w [(w.heap.size + 1 + 1, 0, 0, 0, 0), (w.heap.size + 1, b0, b1, b2, b3), (w.heap.size, a0, a1, a2, a3)] (((w.alloc (.cells #[.int .u64 a0, .int .u64 a1, .int .u64 a2, .int .u64 a3] 24)).alloc (.cells #[.int .u64 b0, .int .u64 b1, .int .u64 b2, .int .u64 b3] 24)).alloc (.cells #[.int .u64 0, .int .u64 0, .int .u64 0, .int .u64 0] 24))) := by
    have h := (((Bx.start w).alloc a0 a1 a2 a3).alloc b0 b1 b2 b3).alloc 0 0 0 0
    (try simp only [World.size_alloc] at h)
    exact h
  generalize (((w.alloc (.cells #[.int .u64 a0, .int .u64 a1, .int .u64 a2, .int .u64 a3] 24)).alloc (.cells #[.int .u64 b0, .int .u64 b1, .int .u64 b2, .int .u64 b3] 24)).alloc (.cells #[.int .u64 0, .int .u64 0, .int .u64 0, .int .u64 0] 24)) = W0 at K0 ⊢
  obtain ⟨ka0, ka1, ka2, ka3, _⟩ := K0.out.f0 mm2
  obtain ⟨kb0, kb1, kb2, kb3, _⟩ := K0.out.f0 mm1
  go_wp2_with (go_at_call 47; refine (HX.out _).mono ?_; rintro e x9 ⟨rfl, hB⟩; (have K9 : Hid _ := K0.out.past hB); clear hB K0 ka0 ka1 ka2 ka3 kb0 kb1 kb2 kb3; obtain ⟨r0, r1, r2, r3, f0, f1, f2, f3⟩ := K9.out.f0 mm0)
  exact bodyPost_ret (v := .tuple #[.agg #[.int .u64 p0, .int .u64 p1, .int .u64 p2, .int .u64 p3], .bool true]) (by simp [results, Tryz.results113, go_sem, r0, r1, r2, r3]) rfl ⟨rfl, below_put K9.out.bel (by omega) _ _ _ _⟩
set_option maxHeartbeats 4000000 in
set_option maxRecDepth 100000 in
theorem rmore_27 (a0 a1 a2 a3 b0 b1 b2 b3 p0 p1 p2 p3 : Int) (X : ∀ W : World, Calls Tryz.prog 49 #[.agg #[.int .u64 a0, .int .u64 a1, .int .u64 a2, .int .u64 a3], .agg #[.int .u64 b0, .int .u64 b1, .int .u64 b2, .int .u64 b3]] W fun e w' => e = .returned (.agg #[.int .u64 p0, .int .u64 p1, .int .u64 p2, .int .u64 p3]) ∧ Below W.heap.size W w') (w : World) :
    Calls Tryz.prog 113 #[.int .i64 27, .agg #[.int .u64 a0, .int .u64 a1, .int .u64 a2, .int .u64 a3], .agg #[.int .u64 b0, .int .u64 b1, .int .u64 b2, .int .u64 b3]] w fun e w' => e = .returned (.tuple #[.agg #[.int .u64 p0, .int .u64 p1, .int .u64 p2, .int .u64 p3], .bool true]) ∧ Below w.heap.size w w' := by
  have HX : Hid _ := X
  clear X
  go_enter Tryz.func113, Tryz.ntmps113
  go_upto_region 1 with fail
  have K0 : Hid (Bx w [(w.heap.size + 1 + 1, 0, 0, 0, 0), (w.heap.size + 1, b0, b1, b2, b3), (w.heap.size, a0, a1, a2, a3)] (((w.alloc (.cells #[.int .u64 a0, .int .u64 a1, .int .u64 a2, .int .u64 a3] 24)).alloc (.cells #[.int .u64 b0, .int .u64 b1, .int .u64 b2, .int .u64 b3] 24)).alloc (.cells #[.int .u64 0, .int .u64 0, .int .u64 0, .int .u64 0] 24))) := by
    have h := (((Bx.start w).alloc a0 a1 a2 a3).alloc b0 b1 b2 b3).alloc 0 0 0 0
    (try simp only [World.size_alloc] at h)
    exact h
  generalize (((w.alloc (.cells #[.int .u64 a0, .int .u64 a1, .int .u64 a2, .int .u64 a3] 24)).alloc (.cells #[.int .u64 b0, .int .u64 b1, .int .u64 b2, .int .u64 b3] 24)).alloc (.cells #[.int .u64 0, .int .u64 0, .int .u64 0, .int .u64 0] 24)) = W0 at K0 ⊢
  obtain ⟨ka0, ka1, ka2, ka3, _⟩ := K0.out.f0 mm2
  obtain ⟨kb0, kb1, kb2, kb3, _⟩ := K0.out.f0 mm1
  go_wp2_with (go_at_call 49; refine (HX.out _).mono ?_; rintro e x9 ⟨rfl, hB⟩; (have K9 : Hid _ := K0.out.past hB); clear hB K0 ka0 ka1 ka2 ka3 kb0 kb1 kb2 kb3; obtain ⟨r0, r1, r2, r3, f0, f1, f2, f3⟩ := K9.out.f0 mm0)
  exact bodyPost_ret (v := .tuple #[.agg #[.int .u64 p0, .int .u64 p1, .int .u64 p2, .int .u64 p3], .bool true]) (by simp [results, Tryz.results113, go_sem, r0, r1, r2, r3]) rfl ⟨rfl, below_put K9.out.bel (by omega) _ _ _ _⟩
set_option maxHeartbeats 4000000 in
set_option maxRecDepth 100000 in
theorem rmore_28 (a0 a1 a2 a3 b0 b1 b2 b3 p0 p1 p2 p3 : Int) (X : ∀ W : World, Calls Tryz.prog 51 #[.agg #[.int .u64 a0, .int .u64 a1, .int .u64 a2, .int .u64 a3], .agg #[.int .u64 b0, .int .u64 b1, .int .u64 b2, .int .u64 b3]] W fun e w' => e = .returned (.agg #[.int .u64 p0, .int .u64 p1, .int .u64 p2, .int .u64 p3]) ∧ Below W.heap.size W w') (w : World) :
    Calls Tryz.prog 113 #[.int .i64 28, .agg #[.int .u64 a0, .int .u64 a1, .int .u64 a2, .int .u64 a3], .agg #[.int .u64 b0, .int .u64 b1, .int .u64 b2, .int .u64 b3]] w fun e w' => e = .returned (.tuple #[.agg #[.int .u64 p0, .int .u64 p1, .int .u64 p2, .int .u64 p3], .bool true]) ∧ Below w.heap.size w w' := by
  have HX : Hid _ := X
  clear X
  go_enter Tryz.func113, Tryz.ntmps113
  go_upto_region 1 with fail
  have K0 : Hid (Bx w [(w.heap.size + 1 + 1, 0, 0, 0, 0), (w.heap.size + 1, b0, b1, b2, b3), (w.heap.size, a0, a1, a2, a3)] (((w.alloc (.cells #[.int .u64 a0, .int .u64 a1, .int .u64 a2, .int .u64 a3] 24)).alloc (.cells #[.int .u64 b0, .int .u64 b1, .int .u64 b2, .int .u64 b3] 24)).alloc (.cells #[.int .u64 0, .int .u64 0, .int .u64 0, .int .u64 0] 24))) := by
    have h := (((Bx.start w).alloc a0 a1 a2 a3).alloc b0 b1 b2 b3).alloc 0 0 0 0
    (try simp only [World.size_alloc] at h)
    exact h
  generalize (((w.alloc (.cells #[.int .u64 a0, .int .u64 a1, .int .u64 a2, .int .u64 a3] 24)).alloc (.cells #[.int .u64 b0, .int .u64 b1, .int .u64 b2, .int .u64 b3] 24)).alloc (.cells #[.int .u64 0, .int .u64 0, .int .u64 0, .int .u64 0] 24)) = W0 at K0 ⊢
  obtain ⟨ka0, ka1, ka2, ka3, _⟩ := K0.out.f0 mm2
  obtain ⟨kb0, kb1, kb2, kb3, _⟩ := K0.out.f0 mm1
  go_wp2_with (go_at_call 51; refine (HX.out _).mono ?_; rintro e x9 ⟨rfl, hB⟩; (have K9 : Hid _ := K0.out.past hB); clear hB K0 ka0 ka1 ka2 ka3 kb0 kb1 kb2 kb3; obtain ⟨r0, r1, r2, r3, f0, f1, f2, f3⟩ := K9.out.f0 mm0)
  exact bodyPost_ret (v := .tuple #[.agg #[.int .u64 p0, .int .u64 p1, .int .u64 p2, .int .u64 p3], .bool true]) (by simp [results, Tryz.results113, go_sem, r0, r1, r2, r3]) rfl ⟨rfl, below_put K9.out.bel (by omega) _ _ _ _⟩
set_option maxHeartbeats 4000000 in
set_option maxRecDepth 100000 in
theorem rmore_29 (a0 a1 a2 a3 b0 b1 b2 b3 p0 p1 p2 p3 : Int) (X : ∀ W : World, Calls Tryz.prog 31 #[.agg #[.int .u64 a0, .int .u64 a1, .int .u64 a2, .int .u64 a3], .agg #[.int .u64 b0, .int .u64 b1, .int .u64 b2, .int .u64 b3]] W fun e w' => e = .returned (.agg #[.int .u64 p0, .int .u64 p1, .int .u64 p2, .int .u64 p3]) ∧ Below W.heap.size W w') (w : World) :
    Calls Tryz.prog 113 #[.int .i64 29, .agg #[.int .u64 a0, .int .u64 a1, .int .u64 a2, .int .u64 a3], .agg #[.int .u64 b0, .int .u64 b1, .int .u64 b2, .int .u64 b3]] w fun e w' => e = .returned (.tuple #[.agg #[.int .u64 p0, .int .u64 p1, .int .u64 p2, .int .u64 p3], .bool true]) ∧ Below w.heap.size w w' := by
  have HX : Hid _ := X
  clear X
  go_enter Tryz.func113, Tryz.ntmps113
  go_upto_region 1 with fail
  have K0 : Hid (Bx w [(w.heap.size + 1 + 1, 0, 0, 0, 0), (w.heap.size + 1, b0, b1, b2, b3), (w.heap.size, a0, a1, a2, a3)] (((w.alloc (.cells #[.int .u64 a0, .int .u64 a1, .int .u64 a2, .int .u64 a3] 24)).alloc (.cells #[.int .u64 b0, .int .u64 b1, .int .u64 b2, .int .u64 b3] 24)).alloc (.cells #[.int .u64 0, .int .u64 0, .int .u64 0, .int .u64 0] 24))) := by
    have h := (((Bx.start w).alloc a0 a1 a2 a3).alloc b0 b1 b2 b3).alloc 0 0 0 0
    (try simp only [World.size_alloc] at h)
    exact h
  generalize (((w.alloc (.cells #[.int .u64 a0, .int .u64 a1, .int .u64 a2, .int .u64 a3] 24)).alloc (.cells #[.int .u64 b0, .int .u64 b1, .int .u64 b2, .int .u64 b3] 24)).alloc (.cells #[.int .u64 0, .int .u64 0, .int .u64 0, .int .u64 0] 24)) = W0 at K0 ⊢
  obtain ⟨ka0, ka1, ka2, ka3, _⟩ := K0.out.f0 mm2
  obtain ⟨kb0, kb1, kb2, kb3, _⟩ := K0.out.f0 mm1
  go_wp2_with (go_at_call 31; refine (HX.out _).mono ?_; rintro e x9 ⟨rfl, hB⟩; (have K9 : Hid _ := K0.out.past hB); clear hB K0 ka0 ka1 ka2 ka3 kb0 kb1 kb2 kb3; obtain ⟨r0, r1, r2, r3, f0, f1, f2, f3⟩ := K9.out.f0 mm0)
  exact bodyPost_ret (v := .tuple #[.agg #[.int .u64 p0, .int .u64 p1, .int .u64 p2, .int .u64 p3], .bool true]) (by simp [results, Tryz.results113, go_sem, r0, r1, r2, r3]) rfl ⟨rfl, below_put K9.out.bel (by omega) _ _ _ _⟩
set_option maxHeartbeats 4000000 in
set_option maxRecDepth 100000 in
theorem rmore_30 (a0 a1 a2 a3 b0 b1 b2 b3 p0 p1 p2 p3 : Int) (X : ∀ W : World, Calls Tryz.prog 53 #[.agg #[.int .u64 a0, .int .u64 a1, .int .u64 a2, .int .u64 a3]] W fun e w' => e = .returned (.agg #[.int .u64 p0, .int .u64 p1, .int .u64 p2, .int .u64 p3]) ∧ Below W.heap.size W w') (w : World) :
    Calls Tryz.prog 113 #[.int .i64 30, .agg #[.int .u64 a0, .int .u64 a1, .int .u64 a2, .int .u64 a3], .agg #[.int .u64 b0, .int .u64 b1, .int .u64 b2, .int .u64 b3]] w fun e w' => e = .returned (.tuple #[.agg #[.int .u64 p0, .int .u64 p1, .int .u64 p2, .int .u64 p3], .bool true]) ∧ Below w.heap.size w w' := by
  have HX : Hid _ := X
  clear X
  go_enter Tryz.func113, Tryz.ntmps113
  go_upto_region 1 with fail
  have K0 : Hid (Bx w [(w.heap.size + 1 + 1, 0, 0, 0, 0), (w.heap.size + 1, b0, b1, b2, b3), (w.heap.size, a0, a1, a2, a3)] (((w.alloc (.cells #[.int .u64 a0, .int .u64 a1, .int .u64 a2, .int .u64 a3] 24)).alloc (.cells #[.int .u64 b0, .int .u64 b1, .int .u64 b2, .int .u64 b3] 24)).alloc (.cells #[.int .u64 0, .int .u64 0, .int .u64 0, .int .u64 0] 24))) := by
    have h := (((Bx.start w).alloc a0 a1 a2 a3).alloc b0 b1 b2 b3).alloc 0 0 0 0
    (try simp only [World.size_alloc] at h)
    exact h
  generalize (((w.alloc (.cells #[.int .u64 a0, .int .u64 a1, .int .u64 a2, .int .u64 a3] 24)).alloc (.cells #[.int .u64 b0, .int .u64 b1, .int .u64 b2, .int .u64 b3] 24)).alloc (.cells #[.int .u64 0, .int .u64 0, .int .u64 0, .int .u64 0] 24)) = W0 at K0 ⊢
  obtain ⟨ka0, ka1, ka2, ka3, _⟩ := K0.out.f0 mm2
  go_wp2_with (go_at_call 53; refine (HX.out _).mono ?_; rintro e x9 ⟨rfl, hB⟩; (have K9 : Hid _ := K0.out.past hB); clear hB K0 ka0 ka1 ka2 ka3; obtain ⟨r0, r1, r2, r3, f0, f1, f2, f3⟩ := K9.out.f0 mm0)
  exact bodyPost_ret (v := .tuple #[.agg #[.int .u64 p0, .int .u64 p1, .int .u64 p2, .int .u64 p3], .bool true]) (by simp [results, Tryz.results113, go_sem, r0, r1, r2, r3]) rfl ⟨rfl, below_put K9.out.bel (by omega) _ _ _ _⟩
set_option maxHeartbeats 4000000 in
set_option maxRecDepth 100000 in
theorem rmore_no (a0 a1 a2 a3 b0 b1 b2 b3 : Int) (i : Int)  (N16 : (i == 16) = false) (N17 : (i == 17) = false) (N18 : (i == 18) = false) (N19 : (i == 19) = false) (N20 : (i == 20) = false) (N21 : (i == 21) = false) (N22 : (i == 22) = false) (N23 : (i == 23) = false) (N24 : (i == 24) = false) (N25 : (i == 25) = false) (N26 : (i == 26) = false) (N27 : (i == 27) = false) (N28 : (i == 28) = false) (N29 : (i == 29) = false) (N30 : (i == 30) = false) (w : World) :
    Calls Tryz.prog 113 #[.int .i64 i, .agg #[.int .u64 a0, .int .u64 a1, .int .u64 a2, .int .u64 a3], .agg #[.int .u64 b0, .int .u64 b1, .int .u64 b2, .int .u64 b3]] w fun e w' => e = .returned (.tuple #[.agg #[.int .u64 0, .int .u64 0, .int .u64 0, .int .u64 0], .bool false]) ∧ Below w.heap.size w w' := by
  have M16 : ¬ i = 16 := by simpa using N16
  have M17 : ¬ i = 17 := by simpa using N17
  have M18 : ¬ i = 18 := by simpa using N18
  have M19 : ¬ i = 19 := by simpa using N19
  have M20 : ¬ i = 20 := by simpa using N20
  have M21 : ¬ i = 21 := by simpa using N21
  have M22 : ¬ i = 22 := by simpa using N22
  have M23 : ¬ i = 23 := by simpa using N23
  have M24 : ¬ i = 24 := by simpa using N24
  have M25 : ¬ i = 25 := by simpa using N25
  have M26 : ¬ i = 26 := by simpa using N26
  have M27 : ¬ i = 27 := by simpa using N27
  have M28 : ¬ i = 28 := by simpa using N28
  have M29 : ¬ i = 29 := by simpa using N29
  have M30 : ¬ i = 30 := by simpa using N30
  go_enter Tryz.func113, Tryz.ntmps113
  go_upto_region 1 with fail
  have K0 : Hid (Bx w [(w.heap.size + 1 + 1, 0, 0, 0, 0), (w.heap.size + 1, b0, b1, b2, b3), (w.heap.size, a0, a1, a2, a3)] (((w.alloc (.cells #[.int .u64 a0, .int .u64 a1, .int .u64 a2, .int .u64 a3] 24)).alloc (.cells #[.int .u64 b0, .int .u64 b1, .int .u64 b2, .int .u64 b3] 24)).alloc (.cells #[.int .u64 0, .int .u64 0, .int .u64 0, .int .u64 0] 24))) := by
    have h := (((Bx.start w).alloc a0 a1 a2 a3).alloc b0 b1 b2 b3).alloc 0 0 0 0
    (try simp only [World.size_alloc] at h)
    exact h
  generalize (((w.alloc (.cells #[.int .u64 a0, .int .u64 a1, .int .u64 a2, .int .u64 a3] 24)).alloc (.cells #[.int .u64 b0, .int .u64 b1, .int .u64 b2, .int .u64 b3] 24)).alloc (.cells #[.int .u64 0, .int .u64 0, .int .u64 0, .int .u64 0] 24)) = W0 at K0 ⊢
  obtain ⟨r0, r1, r2, r3, f0, f1, f2, f3⟩ := K0.out.f0 mm0
  go_wp2
  exact bodyPost_ret (v := .tuple #[.agg #[.int .u64 0, .int .u64 0, .int .u64 0, .int .u64 0], .bool false]) (by simp [results, Tryz.results113, go_sem, r0, r1, r2, r3]) rfl ⟨rfl, below_put K0.out.bel (by omega) _ _ _ _⟩
end Go.Proofs.YtpadpmkfhljiiaaGreat
/- Do of either side gives the same. -/
namespace Go.Proofs.YtpadpmkfhljiiaaGreat
open Go.RowKit
theorem pair_add {x y : Int} {a0 a1 a2 a3 b0 b1 b2 b3 : Int} (ha : IsW x a0 a1 a2 a3) (hb : IsW y b0 b1 b2 b3) : Pair 11 12 #[.agg #[.int .u64 a0, .int .u64 a1, .int .u64 a2, .int .u64 a3], .agg #[.int .u64 b0, .int .u64 b1, .int .u64 b2, .int .u64 b3]] := by
  obtain ⟨p0, p1, p2, p3, hp⟩ := isW_ex (x + y)
  exact ⟨p0, p1, p2, p3, fun w => add_is x y a0 a1 a2 a3 b0 b1 b2 b3 p0 p1 p2 p3 w ha hb hp, fun w => radd_is x y a0 a1 a2 a3 b0 b1 b2 b3 p0 p1 p2 p3 w ha hb hp⟩
theorem pair_sub {x y : Int} {a0 a1 a2 a3 b0 b1 b2 b3 : Int} (ha : IsW x a0 a1 a2 a3) (hb : IsW y b0 b1 b2 b3) : Pair 13 14 #[.agg #[.int .u64 a0, .int .u64 a1, .int .u64 a2, .int .u64 a3], .agg #[.int .u64 b0, .int .u64 b1, .int .u64 b2, .int .u64 b3]] := by
  obtain ⟨p0, p1, p2, p3, hp⟩ := isW_ex (x - y)
  exact ⟨p0, p1, p2, p3, fun w => sub_is x y a0 a1 a2 a3 b0 b1 b2 b3 p0 p1 p2 p3 w ha hb hp, fun w => rsub_is x y a0 a1 a2 a3 b0 b1 b2 b3 p0 p1 p2 p3 w ha hb hp⟩
theorem pair_mul {x y : Int} {a0 a1 a2 a3 b0 b1 b2 b3 : Int} (ha : IsW x a0 a1 a2 a3) (hb : IsW y b0 b1 b2 b3) : Pair 15 16 #[.agg #[.int .u64 a0, .int .u64 a1, .int .u64 a2, .int .u64 a3], .agg #[.int .u64 b0, .int .u64 b1, .int .u64 b2, .int .u64 b3]] := by
  obtain ⟨p0, p1, p2, p3, hp⟩ := isW_ex (x * y)
  exact ⟨p0, p1, p2, p3, fun w => mul_is x y a0 a1 a2 a3 b0 b1 b2 b3 p0 p1 p2 p3 w ha hb hp, fun w => rmul_is x y a0 a1 a2 a3 b0 b1 b2 b3 p0 p1 p2 p3 w ha hb hp⟩
theorem pair_div {x y : Int} {a0 a1 a2 a3 b0 b1 b2 b3 : Int} (ha : IsW x a0 a1 a2 a3) (hb : IsW y b0 b1 b2 b3) : Pair 17 18 #[.agg #[.int .u64 a0, .int .u64 a1, .int .u64 a2, .int .u64 a3], .agg #[.int .u64 b0, .int .u64 b1, .int .u64 b2, .int .u64 b3]] := by
  obtain ⟨p0, p1, p2, p3, hp⟩ := isW_ex (dv (x % MM) (y % MM))
  exact ⟨p0, p1, p2, p3, fun w => div_is x y a0 a1 a2 a3 b0 b1 b2 b3 p0 p1 p2 p3 w ha hb hp, fun w => rdiv_is x y a0 a1 a2 a3 b0 b1 b2 b3 p0 p1 p2 p3 w ha hb hp⟩
theorem pair_mod {x y : Int} {a0 a1 a2 a3 b0 b1 b2 b3 : Int} (ha : IsW x a0 a1 a2 a3) (hb : IsW y b0 b1 b2 b3) : Pair 19 20 #[.agg #[.int .u64 a0, .int .u64 a1, .int .u64 a2, .int .u64 a3], .agg #[.int .u64 b0, .int .u64 b1, .int .u64 b2, .int .u64 b3]] := by
  obtain ⟨p0, p1, p2, p3, hp⟩ := isW_ex (md (x % MM) (y % MM))
  exact ⟨p0, p1, p2, p3, fun w => mod_is x y a0 a1 a2 a3 b0 b1 b2 b3 p0 p1 p2 p3 w ha hb hp, fun w => rmod_is x y a0 a1 a2 a3 b0 b1 b2 b3 p0 p1 p2 p3 w ha hb hp⟩
theorem pair_addMod {x y z : Int} {a0 a1 a2 a3 b0 b1 b2 b3 c0 c1 c2 c3 : Int} (ha : IsW x a0 a1 a2 a3) (hb : IsW y b0 b1 b2 b3) (hc : IsW z c0 c1 c2 c3) : Pair 34 35 #[.agg #[.int .u64 a0, .int .u64 a1, .int .u64 a2, .int .u64 a3], .agg #[.int .u64 b0, .int .u64 b1, .int .u64 b2, .int .u64 b3], .agg #[.int .u64 c0, .int .u64 c1, .int .u64 c2, .int .u64 c3]] := by
  obtain ⟨p0, p1, p2, p3, hp⟩ := isW_ex (md (x % MM + y % MM) (z % MM))
  exact ⟨p0, p1, p2, p3, fun w => addMod_is x y z a0 a1 a2 a3 b0 b1 b2 b3 c0 c1 c2 c3 p0 p1 p2 p3 w ha hb hc hp, fun w => raddMod_is x y z a0 a1 a2 a3 b0 b1 b2 b3 c0 c1 c2 c3 p0 p1 p2 p3 w ha hb hc hp⟩
theorem pair_mulMod {x y z : Int} {a0 a1 a2 a3 b0 b1 b2 b3 c0 c1 c2 c3 : Int} (ha : IsW x a0 a1 a2 a3) (hb : IsW y b0 b1 b2 b3) (hc : IsW z c0 c1 c2 c3) : Pair 36 37 #[.agg #[.int .u64 a0, .int .u64 a1, .int .u64 a2, .int .u64 a3], .agg #[.int .u64 b0, .int .u64 b1, .int .u64 b2, .int .u64 b3], .agg #[.int .u64 c0, .int .u64 c1, .int .u64 c2, .int .u64 c3]] := by
  obtain ⟨p0, p1, p2, p3, hp⟩ := isW_ex (md ((x % MM) * (y % MM)) (z % MM))
  exact ⟨p0, p1, p2, p3, fun w => mulMod_is x y z a0 a1 a2 a3 b0 b1 b2 b3 c0 c1 c2 c3 p0 p1 p2 p3 w ha hb hc hp, fun w => rmulMod_is x y z a0 a1 a2 a3 b0 b1 b2 b3 c0 c1 c2 c3 p0 p1 p2 p3 w ha hb hc hp⟩
theorem pair_exp {x y : Int} {a0 a1 a2 a3 b0 b1 b2 b3 : Int} (ha : IsW x a0 a1 a2 a3) (hb : IsW y b0 b1 b2 b3) : Pair 145 112 #[.agg #[.int .u64 a0, .int .u64 a1, .int .u64 a2, .int .u64 a3], .agg #[.int .u64 b0, .int .u64 b1, .int .u64 b2, .int .u64 b3]] := by
  obtain ⟨Y, hY, eY, lY⟩ := mod_nat hb
  obtain ⟨p0, p1, p2, p3, hp⟩ := isW_ex (x ^ Y)
  exact ⟨p0, p1, p2, p3, fun w => exp_is x y Y a0 a1 a2 a3 b0 b1 b2 b3 p0 p1 p2 p3 w ha hb hY hp, fun w => rexp_is x y Y a0 a1 a2 a3 b0 b1 b2 b3 p0 p1 p2 p3 w ha hb hY hp⟩
theorem pair_lt {x y : Int} {a0 a1 a2 a3 b0 b1 b2 b3 : Int} (ha : IsW x a0 a1 a2 a3) (hb : IsW y b0 b1 b2 b3) : PairB 96 166 #[.agg #[.int .u64 a0, .int .u64 a1, .int .u64 a2, .int .u64 a3], .agg #[.int .u64 b0, .int .u64 b1, .int .u64 b2, .int .u64 b3]] := ⟨_, fun w => lt_is a0 a1 a2 a3 b0 b1 b2 b3 w ha hb _ rfl, fun w => rlt_is a0 a1 a2 a3 b0 b1 b2 b3 w ha hb _ rfl⟩
theorem pair_gt {x y : Int} {a0 a1 a2 a3 b0 b1 b2 b3 : Int} (ha : IsW x a0 a1 a2 a3) (hb : IsW y b0 b1 b2 b3) : PairB 99 167 #[.agg #[.int .u64 a0, .int .u64 a1, .int .u64 a2, .int .u64 a3], .agg #[.int .u64 b0, .int .u64 b1, .int .u64 b2, .int .u64 b3]] := ⟨_, fun w => gt_is a0 a1 a2 a3 b0 b1 b2 b3 w ha hb _ rfl, fun w => rgt_is a0 a1 a2 a3 b0 b1 b2 b3 w ha hb _ rfl⟩
theorem pair_eq {x y : Int} {a0 a1 a2 a3 b0 b1 b2 b3 : Int} (ha : IsW x a0 a1 a2 a3) (hb : IsW y b0 b1 b2 b3) : PairB 153 168 #[.agg #[.int .u64 a0, .int .u64 a1, .int .u64 a2, .int .u64 a3], .agg #[.int .u64 b0, .int .u64 b1, .int .u64 b2, .int .u64 b3]] := ⟨_, fun w => eq_is a0 a1 a2 a3 b0 b1 b2 b3 w ha hb _ rfl, fun w => req_is a0 a1 a2 a3 b0 b1 b2 b3 w ha hb _ rfl⟩
theorem pair_isZero {x : Int} {a0 a1 a2 a3 : Int} (ha : IsW x a0 a1 a2 a3) : PairB 155 169 #[.agg #[.int .u64 a0, .int .u64 a1, .int .u64 a2, .int .u64 a3]] := ⟨_, fun w => isZero_is a0 a1 a2 a3 w ha _ rfl, fun w => risZero_is a0 a1 a2 a3 w ha _ rfl⟩
theorem truths (r : Bool) : ∃ p0 p1 p2 p3 : Int, (∀ W : World, Calls Tryz.prog 148 #[.bool r] W fun e w' => e = .returned (.agg #[.int .u64 p0, .int .u64 p1, .int .u64 p2, .int .u64 p3]) ∧ Below W.heap.size W w') ∧ (∀ W : World, Calls Tryz.prog 165 #[.bool r] W fun e w' => e = .returned (.agg #[.int .u64 p0, .int .u64 p1, .int .u64 p2, .int .u64 p3]) ∧ Below W.heap.size W w') := by
  cases r
  · exact ⟨_, _, _, _, wtruth_f, rtruth_f⟩
  · exact ⟨_, _, _, _, wtruth_t, rtruth_t⟩
def DoBoth (i : Int) (a b c : Value) : Prop := ∃ (p0 p1 p2 p3 : Int) (r : Bool), (∀ w : World, Calls Tryz.prog 56 #[.int .i64 i, a, b, c] w fun e w' => e = .returned (.tuple #[.agg #[.int .u64 p0, .int .u64 p1, .int .u64 p2, .int .u64 p3], .bool r]) ∧ Below w.heap.size w w') ∧ (∀ w : World, Calls Tryz.prog 57 #[.int .i64 i, a, b, c] w fun e w' => e = .returned (.tuple #[.agg #[.int .u64 p0, .int .u64 p1, .int .u64 p2, .int .u64 p3], .bool r]) ∧ Below w.heap.size w w')
theorem both_1 {x y z : Int} {a0 a1 a2 a3 b0 b1 b2 b3 c0 c1 c2 c3 : Int} (ha : IsW x a0 a1 a2 a3) (hb : IsW y b0 b1 b2 b3) (_ : IsW z c0 c1 c2 c3) : DoBoth 1 (.agg #[.int .u64 a0, .int .u64 a1, .int .u64 a2, .int .u64 a3]) (.agg #[.int .u64 b0, .int .u64 b1, .int .u64 b2, .int .u64 b3]) (.agg #[.int .u64 c0, .int .u64 c1, .int .u64 c2, .int .u64 c3]) := by
  obtain ⟨p0, p1, p2, p3, WX, RX⟩ := pair_add ha hb
  exact ⟨p0, p1, p2, p3, true, do_n a0 a1 a2 a3 b0 b1 b2 b3 c0 c1 c2 c3 p0 p1 p2 p3 1 135 (by decide) rfl (fun args W => by kernel_rfl) (deed_1 a0 a1 a2 a3 b0 b1 b2 b3 c0 c1 c2 c3 p0 p1 p2 p3 WX), rdo_1 a0 a1 a2 a3 b0 b1 b2 b3 c0 c1 c2 c3 p0 p1 p2 p3 RX⟩
theorem both_2 {x y z : Int} {a0 a1 a2 a3 b0 b1 b2 b3 c0 c1 c2 c3 : Int} (ha : IsW x a0 a1 a2 a3) (hb : IsW y b0 b1 b2 b3) (_ : IsW z c0 c1 c2 c3) : DoBoth 2 (.agg #[.int .u64 a0, .int .u64 a1, .int .u64 a2, .int .u64 a3]) (.agg #[.int .u64 b0, .int .u64 b1, .int .u64 b2, .int .u64 b3]) (.agg #[.int .u64 c0, .int .u64 c1, .int .u64 c2, .int .u64 c3]) := by
  obtain ⟨p0, p1, p2, p3, WX, RX⟩ := pair_mul ha hb
  exact ⟨p0, p1, p2, p3, true, do_n a0 a1 a2 a3 b0 b1 b2 b3 c0 c1 c2 c3 p0 p1 p2 p3 2 136 (by decide) rfl (fun args W => by kernel_rfl) (deed_2 a0 a1 a2 a3 b0 b1 b2 b3 c0 c1 c2 c3 p0 p1 p2 p3 WX), rdo_2 a0 a1 a2 a3 b0 b1 b2 b3 c0 c1 c2 c3 p0 p1 p2 p3 RX⟩
theorem both_3 {x y z : Int} {a0 a1 a2 a3 b0 b1 b2 b3 c0 c1 c2 c3 : Int} (ha : IsW x a0 a1 a2 a3) (hb : IsW y b0 b1 b2 b3) (_ : IsW z c0 c1 c2 c3) : DoBoth 3 (.agg #[.int .u64 a0, .int .u64 a1, .int .u64 a2, .int .u64 a3]) (.agg #[.int .u64 b0, .int .u64 b1, .int .u64 b2, .int .u64 b3]) (.agg #[.int .u64 c0, .int .u64 c1, .int .u64 c2, .int .u64 c3]) := by
  obtain ⟨p0, p1, p2, p3, WX, RX⟩ := pair_sub ha hb
  exact ⟨p0, p1, p2, p3, true, do_n a0 a1 a2 a3 b0 b1 b2 b3 c0 c1 c2 c3 p0 p1 p2 p3 3 137 (by decide) rfl (fun args W => by kernel_rfl) (deed_3 a0 a1 a2 a3 b0 b1 b2 b3 c0 c1 c2 c3 p0 p1 p2 p3 WX), rdo_3 a0 a1 a2 a3 b0 b1 b2 b3 c0 c1 c2 c3 p0 p1 p2 p3 RX⟩
theorem both_4 {x y z : Int} {a0 a1 a2 a3 b0 b1 b2 b3 c0 c1 c2 c3 : Int} (ha : IsW x a0 a1 a2 a3) (hb : IsW y b0 b1 b2 b3) (_ : IsW z c0 c1 c2 c3) : DoBoth 4 (.agg #[.int .u64 a0, .int .u64 a1, .int .u64 a2, .int .u64 a3]) (.agg #[.int .u64 b0, .int .u64 b1, .int .u64 b2, .int .u64 b3]) (.agg #[.int .u64 c0, .int .u64 c1, .int .u64 c2, .int .u64 c3]) := by
  obtain ⟨p0, p1, p2, p3, WX, RX⟩ := pair_div ha hb
  exact ⟨p0, p1, p2, p3, true, do_n a0 a1 a2 a3 b0 b1 b2 b3 c0 c1 c2 c3 p0 p1 p2 p3 4 138 (by decide) rfl (fun args W => by kernel_rfl) (deed_4 a0 a1 a2 a3 b0 b1 b2 b3 c0 c1 c2 c3 p0 p1 p2 p3 WX), rdo_4 a0 a1 a2 a3 b0 b1 b2 b3 c0 c1 c2 c3 p0 p1 p2 p3 RX⟩
theorem both_5 {x y z : Int} {a0 a1 a2 a3 b0 b1 b2 b3 c0 c1 c2 c3 : Int} (ha : IsW x a0 a1 a2 a3) (hb : IsW y b0 b1 b2 b3) (_ : IsW z c0 c1 c2 c3) : DoBoth 5 (.agg #[.int .u64 a0, .int .u64 a1, .int .u64 a2, .int .u64 a3]) (.agg #[.int .u64 b0, .int .u64 b1, .int .u64 b2, .int .u64 b3]) (.agg #[.int .u64 c0, .int .u64 c1, .int .u64 c2, .int .u64 c3]) := by
  obtain ⟨p0, p1, p2, p3, WX, RX⟩ := pair_sdiv ha hb
  exact ⟨p0, p1, p2, p3, true, do_n a0 a1 a2 a3 b0 b1 b2 b3 c0 c1 c2 c3 p0 p1 p2 p3 5 139 (by decide) rfl (fun args W => by kernel_rfl) (deed_5 a0 a1 a2 a3 b0 b1 b2 b3 c0 c1 c2 c3 p0 p1 p2 p3 WX), rdo_5 a0 a1 a2 a3 b0 b1 b2 b3 c0 c1 c2 c3 p0 p1 p2 p3 RX⟩
theorem both_6 {x y z : Int} {a0 a1 a2 a3 b0 b1 b2 b3 c0 c1 c2 c3 : Int} (ha : IsW x a0 a1 a2 a3) (hb : IsW y b0 b1 b2 b3) (_ : IsW z c0 c1 c2 c3) : DoBoth 6 (.agg #[.int .u64 a0, .int .u64 a1, .int .u64 a2, .int .u64 a3]) (.agg #[.int .u64 b0, .int .u64 b1, .int .u64 b2, .int .u64 b3]) (.agg #[.int .u64 c0, .int .u64 c1, .int .u64 c2, .int .u64 c3]) := by
  obtain ⟨p0, p1, p2, p3, WX, RX⟩ := pair_mod ha hb
  exact ⟨p0, p1, p2, p3, true, do_n a0 a1 a2 a3 b0 b1 b2 b3 c0 c1 c2 c3 p0 p1 p2 p3 6 140 (by decide) rfl (fun args W => by kernel_rfl) (deed_6 a0 a1 a2 a3 b0 b1 b2 b3 c0 c1 c2 c3 p0 p1 p2 p3 WX), rdo_6 a0 a1 a2 a3 b0 b1 b2 b3 c0 c1 c2 c3 p0 p1 p2 p3 RX⟩
theorem both_7 {x y z : Int} {a0 a1 a2 a3 b0 b1 b2 b3 c0 c1 c2 c3 : Int} (ha : IsW x a0 a1 a2 a3) (hb : IsW y b0 b1 b2 b3) (_ : IsW z c0 c1 c2 c3) : DoBoth 7 (.agg #[.int .u64 a0, .int .u64 a1, .int .u64 a2, .int .u64 a3]) (.agg #[.int .u64 b0, .int .u64 b1, .int .u64 b2, .int .u64 b3]) (.agg #[.int .u64 c0, .int .u64 c1, .int .u64 c2, .int .u64 c3]) := by
  obtain ⟨p0, p1, p2, p3, WX, RX⟩ := pair_smod ha hb
  exact ⟨p0, p1, p2, p3, true, do_n a0 a1 a2 a3 b0 b1 b2 b3 c0 c1 c2 c3 p0 p1 p2 p3 7 141 (by decide) rfl (fun args W => by kernel_rfl) (deed_7 a0 a1 a2 a3 b0 b1 b2 b3 c0 c1 c2 c3 p0 p1 p2 p3 WX), rdo_7 a0 a1 a2 a3 b0 b1 b2 b3 c0 c1 c2 c3 p0 p1 p2 p3 RX⟩
theorem both_8 {x y z : Int} {a0 a1 a2 a3 b0 b1 b2 b3 c0 c1 c2 c3 : Int} (ha : IsW x a0 a1 a2 a3) (hb : IsW y b0 b1 b2 b3) (hc : IsW z c0 c1 c2 c3) : DoBoth 8 (.agg #[.int .u64 a0, .int .u64 a1, .int .u64 a2, .int .u64 a3]) (.agg #[.int .u64 b0, .int .u64 b1, .int .u64 b2, .int .u64 b3]) (.agg #[.int .u64 c0, .int .u64 c1, .int .u64 c2, .int .u64 c3]) := by
  obtain ⟨p0, p1, p2, p3, WX, RX⟩ := pair_addMod ha hb hc
  exact ⟨p0, p1, p2, p3, true, do_n a0 a1 a2 a3 b0 b1 b2 b3 c0 c1 c2 c3 p0 p1 p2 p3 8 142 (by decide) rfl (fun args W => by kernel_rfl) (deed_8 a0 a1 a2 a3 b0 b1 b2 b3 c0 c1 c2 c3 p0 p1 p2 p3 WX), rdo_8 a0 a1 a2 a3 b0 b1 b2 b3 c0 c1 c2 c3 p0 p1 p2 p3 RX⟩
theorem both_9 {x y z : Int} {a0 a1 a2 a3 b0 b1 b2 b3 c0 c1 c2 c3 : Int} (ha : IsW x a0 a1 a2 a3) (hb : IsW y b0 b1 b2 b3) (hc : IsW z c0 c1 c2 c3) : DoBoth 9 (.agg #[.int .u64 a0, .int .u64 a1, .int .u64 a2, .int .u64 a3]) (.agg #[.int .u64 b0, .int .u64 b1, .int .u64 b2, .int .u64 b3]) (.agg #[.int .u64 c0, .int .u64 c1, .int .u64 c2, .int .u64 c3]) := by
  obtain ⟨p0, p1, p2, p3, WX, RX⟩ := pair_mulMod ha hb hc
  exact ⟨p0, p1, p2, p3, true, do_n a0 a1 a2 a3 b0 b1 b2 b3 c0 c1 c2 c3 p0 p1 p2 p3 9 143 (by decide) rfl (fun args W => by kernel_rfl) (deed_9 a0 a1 a2 a3 b0 b1 b2 b3 c0 c1 c2 c3 p0 p1 p2 p3 WX), rdo_9 a0 a1 a2 a3 b0 b1 b2 b3 c0 c1 c2 c3 p0 p1 p2 p3 RX⟩
theorem both_10 {x y z : Int} {a0 a1 a2 a3 b0 b1 b2 b3 c0 c1 c2 c3 : Int} (ha : IsW x a0 a1 a2 a3) (hb : IsW y b0 b1 b2 b3) (_ : IsW z c0 c1 c2 c3) : DoBoth 10 (.agg #[.int .u64 a0, .int .u64 a1, .int .u64 a2, .int .u64 a3]) (.agg #[.int .u64 b0, .int .u64 b1, .int .u64 b2, .int .u64 b3]) (.agg #[.int .u64 c0, .int .u64 c1, .int .u64 c2, .int .u64 c3]) := by
  obtain ⟨p0, p1, p2, p3, WX, RX⟩ := pair_exp ha hb
  exact ⟨p0, p1, p2, p3, true, do_n a0 a1 a2 a3 b0 b1 b2 b3 c0 c1 c2 c3 p0 p1 p2 p3 10 144 (by decide) rfl (fun args W => by kernel_rfl) (deed_10 a0 a1 a2 a3 b0 b1 b2 b3 c0 c1 c2 c3 p0 p1 p2 p3 WX), rdo_10 a0 a1 a2 a3 b0 b1 b2 b3 c0 c1 c2 c3 p0 p1 p2 p3 RX⟩
theorem both_11 {x y z : Int} {a0 a1 a2 a3 b0 b1 b2 b3 c0 c1 c2 c3 : Int} (ha : IsW x a0 a1 a2 a3) (hb : IsW y b0 b1 b2 b3) (_ : IsW z c0 c1 c2 c3) : DoBoth 11 (.agg #[.int .u64 a0, .int .u64 a1, .int .u64 a2, .int .u64 a3]) (.agg #[.int .u64 b0, .int .u64 b1, .int .u64 b2, .int .u64 b3]) (.agg #[.int .u64 c0, .int .u64 c1, .int .u64 c2, .int .u64 c3]) := by
  obtain ⟨p0, p1, p2, p3, WX, RX⟩ := pair_signExtend ha hb
  exact ⟨p0, p1, p2, p3, true, do_n a0 a1 a2 a3 b0 b1 b2 b3 c0 c1 c2 c3 p0 p1 p2 p3 11 146 (by decide) rfl (fun args W => by kernel_rfl) (deed_11 a0 a1 a2 a3 b0 b1 b2 b3 c0 c1 c2 c3 p0 p1 p2 p3 WX), rdo_11 a0 a1 a2 a3 b0 b1 b2 b3 c0 c1 c2 c3 p0 p1 p2 p3 RX⟩
theorem both_16 {x y z : Int} {a0 a1 a2 a3 b0 b1 b2 b3 c0 c1 c2 c3 : Int} (ha : IsW x a0 a1 a2 a3) (hb : IsW y b0 b1 b2 b3) (_ : IsW z c0 c1 c2 c3) : DoBoth 16 (.agg #[.int .u64 a0, .int .u64 a1, .int .u64 a2, .int .u64 a3]) (.agg #[.int .u64 b0, .int .u64 b1, .int .u64 b2, .int .u64 b3]) (.agg #[.int .u64 c0, .int .u64 c1, .int .u64 c2, .int .u64 c3]) := by
  obtain ⟨r, WX, RX⟩ := pair_lt ha hb
  obtain ⟨p0, p1, p2, p3, WT, RT⟩ := truths r
  exact ⟨p0, p1, p2, p3, true, do_n a0 a1 a2 a3 b0 b1 b2 b3 c0 c1 c2 c3 p0 p1 p2 p3 16 147 (by decide) rfl (fun args W => by kernel_rfl) (deed_16 a0 a1 a2 a3 b0 b1 b2 b3 c0 c1 c2 c3 p0 p1 p2 p3 r WX WT), rdo_more a0 a1 a2 a3 b0 b1 b2 b3 c0 c1 c2 c3 p0 p1 p2 p3 16 true (rmore_16 a0 a1 a2 a3 b0 b1 b2 b3 p0 p1 p2 p3 r RX RT) (by decide) (by decide) (by decide) (by decide) (by decide) (by decide) (by decide) (by decide) (by decide) (by decide) (by decide)⟩
theorem both_17 {x y z : Int} {a0 a1 a2 a3 b0 b1 b2 b3 c0 c1 c2 c3 : Int} (ha : IsW x a0 a1 a2 a3) (hb : IsW y b0 b1 b2 b3) (_ : IsW z c0 c1 c2 c3) : DoBoth 17 (.agg #[.int .u64 a0, .int .u64 a1, .int .u64 a2, .int .u64 a3]) (.agg #[.int .u64 b0, .int .u64 b1, .int .u64 b2, .int .u64 b3]) (.agg #[.int .u64 c0, .int .u64 c1, .int .u64 c2, .int .u64 c3]) := by
  obtain ⟨r, WX, RX⟩ := pair_gt ha hb
  obtain ⟨p0, p1, p2, p3, WT, RT⟩ := truths r
  exact ⟨p0, p1, p2, p3, true, do_n a0 a1 a2 a3 b0 b1 b2 b3 c0 c1 c2 c3 p0 p1 p2 p3 17 149 (by decide) rfl (fun args W => by kernel_rfl) (deed_17 a0 a1 a2 a3 b0 b1 b2 b3 c0 c1 c2 c3 p0 p1 p2 p3 r WX WT), rdo_more a0 a1 a2 a3 b0 b1 b2 b3 c0 c1 c2 c3 p0 p1 p2 p3 17 true (rmore_17 a0 a1 a2 a3 b0 b1 b2 b3 p0 p1 p2 p3 r RX RT) (by decide) (by decide) (by decide) (by decide) (by decide) (by decide) (by decide) (by decide) (by decide) (by decide) (by decide)⟩
theorem both_18 {x y z : Int} {a0 a1 a2 a3 b0 b1 b2 b3 c0 c1 c2 c3 : Int} (ha : IsW x a0 a1 a2 a3) (hb : IsW y b0 b1 b2 b3) (_ : IsW z c0 c1 c2 c3) : DoBoth 18 (.agg #[.int .u64 a0, .int .u64 a1, .int .u64 a2, .int .u64 a3]) (.agg #[.int .u64 b0, .int .u64 b1, .int .u64 b2, .int .u64 b3]) (.agg #[.int .u64 c0, .int .u64 c1, .int .u64 c2, .int .u64 c3]) := by
  obtain ⟨r, WX, RX⟩ := pair_slt ha hb
  obtain ⟨p0, p1, p2, p3, WT, RT⟩ := truths r
  exact ⟨p0, p1, p2, p3, true, do_n a0 a1 a2 a3 b0 b1 b2 b3 c0 c1 c2 c3 p0 p1 p2 p3 18 150 (by decide) rfl (fun args W => by kernel_rfl) (deed_18 a0 a1 a2 a3 b0 b1 b2 b3 c0 c1 c2 c3 p0 p1 p2 p3 r WX WT), rdo_more a0 a1 a2 a3 b0 b1 b2 b3 c0 c1 c2 c3 p0 p1 p2 p3 18 true (rmore_18 a0 a1 a2 a3 b0 b1 b2 b3 p0 p1 p2 p3 r RX RT) (by decide) (by decide) (by decide) (by decide) (by decide) (by decide) (by decide) (by decide) (by decide) (by decide) (by decide)⟩
theorem both_19 {x y z : Int} {a0 a1 a2 a3 b0 b1 b2 b3 c0 c1 c2 c3 : Int} (ha : IsW x a0 a1 a2 a3) (hb : IsW y b0 b1 b2 b3) (_ : IsW z c0 c1 c2 c3) : DoBoth 19 (.agg #[.int .u64 a0, .int .u64 a1, .int .u64 a2, .int .u64 a3]) (.agg #[.int .u64 b0, .int .u64 b1, .int .u64 b2, .int .u64 b3]) (.agg #[.int .u64 c0, .int .u64 c1, .int .u64 c2, .int .u64 c3]) := by
  obtain ⟨r, WX, RX⟩ := pair_sgt ha hb
  obtain ⟨p0, p1, p2, p3, WT, RT⟩ := truths r
  exact ⟨p0, p1, p2, p3, true, do_n a0 a1 a2 a3 b0 b1 b2 b3 c0 c1 c2 c3 p0 p1 p2 p3 19 151 (by decide) rfl (fun args W => by kernel_rfl) (deed_19 a0 a1 a2 a3 b0 b1 b2 b3 c0 c1 c2 c3 p0 p1 p2 p3 r WX WT), rdo_more a0 a1 a2 a3 b0 b1 b2 b3 c0 c1 c2 c3 p0 p1 p2 p3 19 true (rmore_19 a0 a1 a2 a3 b0 b1 b2 b3 p0 p1 p2 p3 r RX RT) (by decide) (by decide) (by decide) (by decide) (by decide) (by decide) (by decide) (by decide) (by decide) (by decide) (by decide)⟩
theorem both_20 {x y z : Int} {a0 a1 a2 a3 b0 b1 b2 b3 c0 c1 c2 c3 : Int} (ha : IsW x a0 a1 a2 a3) (hb : IsW y b0 b1 b2 b3) (_ : IsW z c0 c1 c2 c3) : DoBoth 20 (.agg #[.int .u64 a0, .int .u64 a1, .int .u64 a2, .int .u64 a3]) (.agg #[.int .u64 b0, .int .u64 b1, .int .u64 b2, .int .u64 b3]) (.agg #[.int .u64 c0, .int .u64 c1, .int .u64 c2, .int .u64 c3]) := by
  obtain ⟨r, WX, RX⟩ := pair_eq ha hb
  obtain ⟨p0, p1, p2, p3, WT, RT⟩ := truths r
  exact ⟨p0, p1, p2, p3, true, do_n a0 a1 a2 a3 b0 b1 b2 b3 c0 c1 c2 c3 p0 p1 p2 p3 20 152 (by decide) rfl (fun args W => by kernel_rfl) (deed_20 a0 a1 a2 a3 b0 b1 b2 b3 c0 c1 c2 c3 p0 p1 p2 p3 r WX WT), rdo_more a0 a1 a2 a3 b0 b1 b2 b3 c0 c1 c2 c3 p0 p1 p2 p3 20 true (rmore_20 a0 a1 a2 a3 b0 b1 b2 b3 p0 p1 p2 p3 r RX RT) (by decide) (by decide) (by decide) (by decide) (by decide) (by decide) (by decide) (by decide) (by decide) (by decide) (by decide)⟩
theorem both_21 {x y z : Int} {a0 a1 a2 a3 b0 b1 b2 b3 c0 c1 c2 c3 : Int} (ha : IsW x a0 a1 a2 a3) (_ : IsW y b0 b1 b2 b3) (_ : IsW z c0 c1 c2 c3) : DoBoth 21 (.agg #[.int .u64 a0, .int .u64 a1, .int .u64 a2, .int .u64 a3]) (.agg #[.int .u64 b0, .int .u64 b1, .int .u64 b2, .int .u64 b3]) (.agg #[.int .u64 c0, .int .u64 c1, .int .u64 c2, .int .u64 c3]) := by
  obtain ⟨r, WX, RX⟩ := pair_isZero ha
  obtain ⟨p0, p1, p2, p3, WT, RT⟩ := truths r
  exact ⟨p0, p1, p2, p3, true, do_n a0 a1 a2 a3 b0 b1 b2 b3 c0 c1 c2 c3 p0 p1 p2 p3 21 154 (by decide) rfl (fun args W => by kernel_rfl) (deed_21 a0 a1 a2 a3 b0 b1 b2 b3 c0 c1 c2 c3 p0 p1 p2 p3 r WX WT), rdo_more a0 a1 a2 a3 b0 b1 b2 b3 c0 c1 c2 c3 p0 p1 p2 p3 21 true (rmore_21 a0 a1 a2 a3 b0 b1 b2 b3 p0 p1 p2 p3 r RX RT) (by decide) (by decide) (by decide) (by decide) (by decide) (by decide) (by decide) (by decide) (by decide) (by decide) (by decide)⟩
theorem both_22 {x y z : Int} {a0 a1 a2 a3 b0 b1 b2 b3 c0 c1 c2 c3 : Int} (ha : IsW x a0 a1 a2 a3) (hb : IsW y b0 b1 b2 b3) (_ : IsW z c0 c1 c2 c3) : DoBoth 22 (.agg #[.int .u64 a0, .int .u64 a1, .int .u64 a2, .int .u64 a3]) (.agg #[.int .u64 b0, .int .u64 b1, .int .u64 b2, .int .u64 b3]) (.agg #[.int .u64 c0, .int .u64 c1, .int .u64 c2, .int .u64 c3]) := by
  obtain ⟨p0, p1, p2, p3, WX, RX⟩ := pair_and ha hb
  exact ⟨p0, p1, p2, p3, true, do_n a0 a1 a2 a3 b0 b1 b2 b3 c0 c1 c2 c3 p0 p1 p2 p3 22 156 (by decide) rfl (fun args W => by kernel_rfl) (deed_22 a0 a1 a2 a3 b0 b1 b2 b3 c0 c1 c2 c3 p0 p1 p2 p3 WX), rdo_more a0 a1 a2 a3 b0 b1 b2 b3 c0 c1 c2 c3 p0 p1 p2 p3 22 true (rmore_22 a0 a1 a2 a3 b0 b1 b2 b3 p0 p1 p2 p3 RX) (by decide) (by decide) (by decide) (by decide) (by decide) (by decide) (by decide) (by decide) (by decide) (by decide) (by decide)⟩
theorem both_23 {x y z : Int} {a0 a1 a2 a3 b0 b1 b2 b3 c0 c1 c2 c3 : Int} (ha : IsW x a0 a1 a2 a3) (hb : IsW y b0 b1 b2 b3) (_ : IsW z c0 c1 c2 c3) : DoBoth 23 (.agg #[.int .u64 a0, .int .u64 a1, .int .u64 a2, .int .u64 a3]) (.agg #[.int .u64 b0, .int .u64 b1, .int .u64 b2, .int .u64 b3]) (.agg #[.int .u64 c0, .int .u64 c1, .int .u64 c2, .int .u64 c3]) := by
  obtain ⟨p0, p1, p2, p3, WX, RX⟩ := pair_or ha hb
  exact ⟨p0, p1, p2, p3, true, do_n a0 a1 a2 a3 b0 b1 b2 b3 c0 c1 c2 c3 p0 p1 p2 p3 23 157 (by decide) rfl (fun args W => by kernel_rfl) (deed_23 a0 a1 a2 a3 b0 b1 b2 b3 c0 c1 c2 c3 p0 p1 p2 p3 WX), rdo_more a0 a1 a2 a3 b0 b1 b2 b3 c0 c1 c2 c3 p0 p1 p2 p3 23 true (rmore_23 a0 a1 a2 a3 b0 b1 b2 b3 p0 p1 p2 p3 RX) (by decide) (by decide) (by decide) (by decide) (by decide) (by decide) (by decide) (by decide) (by decide) (by decide) (by decide)⟩
theorem both_24 {x y z : Int} {a0 a1 a2 a3 b0 b1 b2 b3 c0 c1 c2 c3 : Int} (ha : IsW x a0 a1 a2 a3) (hb : IsW y b0 b1 b2 b3) (_ : IsW z c0 c1 c2 c3) : DoBoth 24 (.agg #[.int .u64 a0, .int .u64 a1, .int .u64 a2, .int .u64 a3]) (.agg #[.int .u64 b0, .int .u64 b1, .int .u64 b2, .int .u64 b3]) (.agg #[.int .u64 c0, .int .u64 c1, .int .u64 c2, .int .u64 c3]) := by
  obtain ⟨p0, p1, p2, p3, WX, RX⟩ := pair_xor ha hb
  exact ⟨p0, p1, p2, p3, true, do_n a0 a1 a2 a3 b0 b1 b2 b3 c0 c1 c2 c3 p0 p1 p2 p3 24 158 (by decide) rfl (fun args W => by kernel_rfl) (deed_24 a0 a1 a2 a3 b0 b1 b2 b3 c0 c1 c2 c3 p0 p1 p2 p3 WX), rdo_more a0 a1 a2 a3 b0 b1 b2 b3 c0 c1 c2 c3 p0 p1 p2 p3 24 true (rmore_24 a0 a1 a2 a3 b0 b1 b2 b3 p0 p1 p2 p3 RX) (by decide) (by decide) (by decide) (by decide) (by decide) (by decide) (by decide) (by decide) (by decide) (by decide) (by decide)⟩
theorem both_25 {x y z : Int} {a0 a1 a2 a3 b0 b1 b2 b3 c0 c1 c2 c3 : Int} (ha : IsW x a0 a1 a2 a3) (_ : IsW y b0 b1 b2 b3) (_ : IsW z c0 c1 c2 c3) : DoBoth 25 (.agg #[.int .u64 a0, .int .u64 a1, .int .u64 a2, .int .u64 a3]) (.agg #[.int .u64 b0, .int .u64 b1, .int .u64 b2, .int .u64 b3]) (.agg #[.int .u64 c0, .int .u64 c1, .int .u64 c2, .int .u64 c3]) := by
  obtain ⟨p0, p1, p2, p3, WX, RX⟩ := pair_not ha
  exact ⟨p0, p1, p2, p3, true, do_n a0 a1 a2 a3 b0 b1 b2 b3 c0 c1 c2 c3 p0 p1 p2 p3 25 159 (by decide) rfl (fun args W => by kernel_rfl) (deed_25 a0 a1 a2 a3 b0 b1 b2 b3 c0 c1 c2 c3 p0 p1 p2 p3 WX), rdo_more a0 a1 a2 a3 b0 b1 b2 b3 c0 c1 c2 c3 p0 p1 p2 p3 25 true (rmore_25 a0 a1 a2 a3 b0 b1 b2 b3 p0 p1 p2 p3 RX) (by decide) (by decide) (by decide) (by decide) (by decide) (by decide) (by decide) (by decide) (by decide) (by decide) (by decide)⟩
theorem both_26 {x y z : Int} {a0 a1 a2 a3 b0 b1 b2 b3 c0 c1 c2 c3 : Int} (ha : IsW x a0 a1 a2 a3) (hb : IsW y b0 b1 b2 b3) (_ : IsW z c0 c1 c2 c3) : DoBoth 26 (.agg #[.int .u64 a0, .int .u64 a1, .int .u64 a2, .int .u64 a3]) (.agg #[.int .u64 b0, .int .u64 b1, .int .u64 b2, .int .u64 b3]) (.agg #[.int .u64 c0, .int .u64 c1, .int .u64 c2, .int .u64 c3]) := by
  obtain ⟨p0, p1, p2, p3, WX, RX⟩ := pair_byte ha hb
  exact ⟨p0, p1, p2, p3, true, do_n a0 a1 a2 a3 b0 b1 b2 b3 c0 c1 c2 c3 p0 p1 p2 p3 26 160 (by decide) rfl (fun args W => by kernel_rfl) (deed_26 a0 a1 a2 a3 b0 b1 b2 b3 c0 c1 c2 c3 p0 p1 p2 p3 WX), rdo_more a0 a1 a2 a3 b0 b1 b2 b3 c0 c1 c2 c3 p0 p1 p2 p3 26 true (rmore_26 a0 a1 a2 a3 b0 b1 b2 b3 p0 p1 p2 p3 RX) (by decide) (by decide) (by decide) (by decide) (by decide) (by decide) (by decide) (by decide) (by decide) (by decide) (by decide)⟩
theorem both_27 {x y z : Int} {a0 a1 a2 a3 b0 b1 b2 b3 c0 c1 c2 c3 : Int} (ha : IsW x a0 a1 a2 a3) (hb : IsW y b0 b1 b2 b3) (_ : IsW z c0 c1 c2 c3) : DoBoth 27 (.agg #[.int .u64 a0, .int .u64 a1, .int .u64 a2, .int .u64 a3]) (.agg #[.int .u64 b0, .int .u64 b1, .int .u64 b2, .int .u64 b3]) (.agg #[.int .u64 c0, .int .u64 c1, .int .u64 c2, .int .u64 c3]) := by
  obtain ⟨p0, p1, p2, p3, WX, RX⟩ := pair_shl ha hb
  exact ⟨p0, p1, p2, p3, true, do_n a0 a1 a2 a3 b0 b1 b2 b3 c0 c1 c2 c3 p0 p1 p2 p3 27 161 (by decide) rfl (fun args W => by kernel_rfl) (deed_27 a0 a1 a2 a3 b0 b1 b2 b3 c0 c1 c2 c3 p0 p1 p2 p3 WX), rdo_more a0 a1 a2 a3 b0 b1 b2 b3 c0 c1 c2 c3 p0 p1 p2 p3 27 true (rmore_27 a0 a1 a2 a3 b0 b1 b2 b3 p0 p1 p2 p3 RX) (by decide) (by decide) (by decide) (by decide) (by decide) (by decide) (by decide) (by decide) (by decide) (by decide) (by decide)⟩
theorem both_28 {x y z : Int} {a0 a1 a2 a3 b0 b1 b2 b3 c0 c1 c2 c3 : Int} (ha : IsW x a0 a1 a2 a3) (hb : IsW y b0 b1 b2 b3) (_ : IsW z c0 c1 c2 c3) : DoBoth 28 (.agg #[.int .u64 a0, .int .u64 a1, .int .u64 a2, .int .u64 a3]) (.agg #[.int .u64 b0, .int .u64 b1, .int .u64 b2, .int .u64 b3]) (.agg #[.int .u64 c0, .int .u64 c1, .int .u64 c2, .int .u64 c3]) := by
  obtain ⟨p0, p1, p2, p3, WX, RX⟩ := pair_shr ha hb
  exact ⟨p0, p1, p2, p3, true, do_n a0 a1 a2 a3 b0 b1 b2 b3 c0 c1 c2 c3 p0 p1 p2 p3 28 162 (by decide) rfl (fun args W => by kernel_rfl) (deed_28 a0 a1 a2 a3 b0 b1 b2 b3 c0 c1 c2 c3 p0 p1 p2 p3 WX), rdo_more a0 a1 a2 a3 b0 b1 b2 b3 c0 c1 c2 c3 p0 p1 p2 p3 28 true (rmore_28 a0 a1 a2 a3 b0 b1 b2 b3 p0 p1 p2 p3 RX) (by decide) (by decide) (by decide) (by decide) (by decide) (by decide) (by decide) (by decide) (by decide) (by decide) (by decide)⟩
theorem both_29 {x y z : Int} {a0 a1 a2 a3 b0 b1 b2 b3 c0 c1 c2 c3 : Int} (ha : IsW x a0 a1 a2 a3) (hb : IsW y b0 b1 b2 b3) (_ : IsW z c0 c1 c2 c3) : DoBoth 29 (.agg #[.int .u64 a0, .int .u64 a1, .int .u64 a2, .int .u64 a3]) (.agg #[.int .u64 b0, .int .u64 b1, .int .u64 b2, .int .u64 b3]) (.agg #[.int .u64 c0, .int .u64 c1, .int .u64 c2, .int .u64 c3]) := by
  obtain ⟨p0, p1, p2, p3, WX, RX⟩ := pair_sar ha hb
  exact ⟨p0, p1, p2, p3, true, do_n a0 a1 a2 a3 b0 b1 b2 b3 c0 c1 c2 c3 p0 p1 p2 p3 29 163 (by decide) rfl (fun args W => by kernel_rfl) (deed_29 a0 a1 a2 a3 b0 b1 b2 b3 c0 c1 c2 c3 p0 p1 p2 p3 WX), rdo_more a0 a1 a2 a3 b0 b1 b2 b3 c0 c1 c2 c3 p0 p1 p2 p3 29 true (rmore_29 a0 a1 a2 a3 b0 b1 b2 b3 p0 p1 p2 p3 RX) (by decide) (by decide) (by decide) (by decide) (by decide) (by decide) (by decide) (by decide) (by decide) (by decide) (by decide)⟩
theorem both_30 {x y z : Int} {a0 a1 a2 a3 b0 b1 b2 b3 c0 c1 c2 c3 : Int} (ha : IsW x a0 a1 a2 a3) (_ : IsW y b0 b1 b2 b3) (_ : IsW z c0 c1 c2 c3) : DoBoth 30 (.agg #[.int .u64 a0, .int .u64 a1, .int .u64 a2, .int .u64 a3]) (.agg #[.int .u64 b0, .int .u64 b1, .int .u64 b2, .int .u64 b3]) (.agg #[.int .u64 c0, .int .u64 c1, .int .u64 c2, .int .u64 c3]) := by
  obtain ⟨p0, p1, p2, p3, WX, RX⟩ := pair_clz ha
  exact ⟨p0, p1, p2, p3, true, do_n a0 a1 a2 a3 b0 b1 b2 b3 c0 c1 c2 c3 p0 p1 p2 p3 30 164 (by decide) rfl (fun args W => by kernel_rfl) (deed_30 a0 a1 a2 a3 b0 b1 b2 b3 c0 c1 c2 c3 p0 p1 p2 p3 WX), rdo_more a0 a1 a2 a3 b0 b1 b2 b3 c0 c1 c2 c3 p0 p1 p2 p3 30 true (rmore_30 a0 a1 a2 a3 b0 b1 b2 b3 p0 p1 p2 p3 RX) (by decide) (by decide) (by decide) (by decide) (by decide) (by decide) (by decide) (by decide) (by decide) (by decide) (by decide)⟩
theorem both_no (i : Int) (a0 a1 a2 a3 b0 b1 b2 b3 c0 c1 c2 c3 : Int) (W : ∀ w : World, Calls Tryz.prog 56 #[.int .i64 i, .agg #[.int .u64 a0, .int .u64 a1, .int .u64 a2, .int .u64 a3], .agg #[.int .u64 b0, .int .u64 b1, .int .u64 b2, .int .u64 b3], .agg #[.int .u64 c0, .int .u64 c1, .int .u64 c2, .int .u64 c3]] w fun e w' => e = .returned (.tuple #[.agg #[.int .u64 0, .int .u64 0, .int .u64 0, .int .u64 0], .bool false]) ∧ Below w.heap.size w w')
    (n1 : i ≠ 1) (n2 : i ≠ 2) (n3 : i ≠ 3) (n4 : i ≠ 4) (n5 : i ≠ 5) (n6 : i ≠ 6) (n7 : i ≠ 7) (n8 : i ≠ 8) (n9 : i ≠ 9) (n10 : i ≠ 10) (n11 : i ≠ 11) (n16 : i ≠ 16) (n17 : i ≠ 17) (n18 : i ≠ 18) (n19 : i ≠ 19) (n20 : i ≠ 20) (n21 : i ≠ 21) (n22 : i ≠ 22) (n23 : i ≠ 23) (n24 : i ≠ 24) (n25 : i ≠ 25) (n26 : i ≠ 26) (n27 : i ≠ 27) (n28 : i ≠ 28) (n29 : i ≠ 29) (n30 : i ≠ 30) : DoBoth i (.agg #[.int .u64 a0, .int .u64 a1, .int .u64 a2, .int .u64 a3]) (.agg #[.int .u64 b0, .int .u64 b1, .int .u64 b2, .int .u64 b3]) (.agg #[.int .u64 c0, .int .u64 c1, .int .u64 c2, .int .u64 c3]) :=
  ⟨0, 0, 0, 0, false, W, rdo_more a0 a1 a2 a3 b0 b1 b2 b3 c0 c1 c2 c3 0 0 0 0 i false (rmore_no a0 a1 a2 a3 b0 b1 b2 b3 i (beq_eq_false_iff_ne.2 n16) (beq_eq_false_iff_ne.2 n17) (beq_eq_false_iff_ne.2 n18) (beq_eq_false_iff_ne.2 n19) (beq_eq_false_iff_ne.2 n20) (beq_eq_false_iff_ne.2 n21) (beq_eq_false_iff_ne.2 n22) (beq_eq_false_iff_ne.2 n23) (beq_eq_false_iff_ne.2 n24) (beq_eq_false_iff_ne.2 n25) (beq_eq_false_iff_ne.2 n26) (beq_eq_false_iff_ne.2 n27) (beq_eq_false_iff_ne.2 n28) (beq_eq_false_iff_ne.2 n29) (beq_eq_false_iff_ne.2 n30)) (beq_eq_false_iff_ne.2 n1) (beq_eq_false_iff_ne.2 n2) (beq_eq_false_iff_ne.2 n3) (beq_eq_false_iff_ne.2 n4) (beq_eq_false_iff_ne.2 n5) (beq_eq_false_iff_ne.2 n6) (beq_eq_false_iff_ne.2 n7) (beq_eq_false_iff_ne.2 n8) (beq_eq_false_iff_ne.2 n9) (beq_eq_false_iff_ne.2 n10) (beq_eq_false_iff_ne.2 n11)⟩
theorem do_both (i : Int) {x y z : Int} {a0 a1 a2 a3 b0 b1 b2 b3 c0 c1 c2 c3 : Int} (ha : IsW x a0 a1 a2 a3) (hb : IsW y b0 b1 b2 b3) (hc : IsW z c0 c1 c2 c3) : DoBoth i (.agg #[.int .u64 a0, .int .u64 a1, .int .u64 a2, .int .u64 a3]) (.agg #[.int .u64 b0, .int .u64 b1, .int .u64 b2, .int .u64 b3]) (.agg #[.int .u64 c0, .int .u64 c1, .int .u64 c2, .int .u64 c3]) := by
  by_cases n1 : i = 1
  · subst n1; exact both_1 ha hb hc
  by_cases n2 : i = 2
  · subst n2; exact both_2 ha hb hc
  by_cases n3 : i = 3
  · subst n3; exact both_3 ha hb hc
  by_cases n4 : i = 4
  · subst n4; exact both_4 ha hb hc
  by_cases n5 : i = 5
  · subst n5; exact both_5 ha hb hc
  by_cases n6 : i = 6
  · subst n6; exact both_6 ha hb hc
  by_cases n7 : i = 7
  · subst n7; exact both_7 ha hb hc
  by_cases n8 : i = 8
  · subst n8; exact both_8 ha hb hc
  by_cases n9 : i = 9
  · subst n9; exact both_9 ha hb hc
  by_cases n10 : i = 10
  · subst n10; exact both_10 ha hb hc
  by_cases n11 : i = 11
  · subst n11; exact both_11 ha hb hc
  by_cases n16 : i = 16
  · subst n16; exact both_16 ha hb hc
  by_cases n17 : i = 17
  · subst n17; exact both_17 ha hb hc
  by_cases n18 : i = 18
  · subst n18; exact both_18 ha hb hc
  by_cases n19 : i = 19
  · subst n19; exact both_19 ha hb hc
  by_cases n20 : i = 20
  · subst n20; exact both_20 ha hb hc
  by_cases n21 : i = 21
  · subst n21; exact both_21 ha hb hc
  by_cases n22 : i = 22
  · subst n22; exact both_22 ha hb hc
  by_cases n23 : i = 23
  · subst n23; exact both_23 ha hb hc
  by_cases n24 : i = 24
  · subst n24; exact both_24 ha hb hc
  by_cases n25 : i = 25
  · subst n25; exact both_25 ha hb hc
  by_cases n26 : i = 26
  · subst n26; exact both_26 ha hb hc
  by_cases n27 : i = 27
  · subst n27; exact both_27 ha hb hc
  by_cases n28 : i = 28
  · subst n28; exact both_28 ha hb hc
  by_cases n29 : i = 29
  · subst n29; exact both_29 ha hb hc
  by_cases n30 : i = 30
  · subst n30; exact both_30 ha hb hc
  by_cases h0 : i < 0
  · exact both_no i a0 a1 a2 a3 b0 b1 b2 b3 c0 c1 c2 c3 (do_lt a0 a1 a2 a3 b0 b1 b2 b3 c0 c1 c2 c3 i h0) n1 n2 n3 n4 n5 n6 n7 n8 n9 n10 n11 n16 n17 n18 n19 n20 n21 n22 n23 n24 n25 n26 n27 n28 n29 n30
  by_cases h1 : 31 ≤ i
  · exact both_no i a0 a1 a2 a3 b0 b1 b2 b3 c0 c1 c2 c3 (do_ge a0 a1 a2 a3 b0 b1 b2 b3 c0 c1 c2 c3 i h1) n1 n2 n3 n4 n5 n6 n7 n8 n9 n10 n11 n16 n17 n18 n19 n20 n21 n22 n23 n24 n25 n26 n27 n28 n29 n30
  have hi : i = 0 ∨ i = 12 ∨ i = 13 ∨ i = 14 ∨ i = 15 := by omega
  refine both_no i a0 a1 a2 a3 b0 b1 b2 b3 c0 c1 c2 c3 ?_ n1 n2 n3 n4 n5 n6 n7 n8 n9 n10 n11 n16 n17 n18 n19 n20 n21 n22 n23 n24 n25 n26 n27 n28 n29 n30
  rcases hi with rfl | rfl | rfl | rfl | rfl
  · exact do_nil a0 a1 a2 a3 b0 b1 b2 b3 c0 c1 c2 c3 0 (by decide) rfl
  · exact do_nil a0 a1 a2 a3 b0 b1 b2 b3 c0 c1 c2 c3 12 (by decide) rfl
  · exact do_nil a0 a1 a2 a3 b0 b1 b2 b3 c0 c1 c2 c3 13 (by decide) rfl
  · exact do_nil a0 a1 a2 a3 b0 b1 b2 b3 c0 c1 c2 c3 14 (by decide) rfl
  · exact do_nil a0 a1 a2 a3 b0 b1 b2 b3 c0 c1 c2 c3 15 (by decide) rfl
end Go.Proofs.YtpadpmkfhljiiaaGreat
