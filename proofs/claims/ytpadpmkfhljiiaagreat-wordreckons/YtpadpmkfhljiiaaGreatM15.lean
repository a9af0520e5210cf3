/- WordReckons: for every two words the law returns true and turns nothing that was there. -/
import Derived.Test.YtpadpmkfhljiiaaGreatM10
import Derived.Test.YtpadpmkfhljiiaaGreatM13
import Derived.Test.YtpadpmkfhljiiaaGreatM14
import Derived.Test.YtpadpmkfhljiiaaGreatM12
import Derived.Test.YtpadpmkfhljiiaaGreatM2
namespace Go.Proofs.YtpadpmkfhljiiaaGreat
open Go.RowKit
set_option maxHeartbeats 4000000 in
set_option maxRecDepth 100000 in
theorem wrk_c (a0 a1 a2 a3 b0 b1 b2 b3 p0 p1 p2 p3 q0 q1 q2 q3 r0 r1 r2 r3 s0 s1 s2 s3 t0 t1 t2 t3 : Int) (WAdd : ∀ w : World, Calls Tryz.prog 11 #[.agg #[.int .u64 a0, .int .u64 a1, .int .u64 a2, .int .u64 a3], .agg #[.int .u64 b0, .int .u64 b1, .int .u64 b2, .int .u64 b3]] w fun e w' => e = .returned (.agg #[.int .u64 p0, .int .u64 p1, .int .u64 p2, .int .u64 p3]) ∧ Below w.heap.size w w') (RAdd : ∀ w : World, Calls Tryz.prog 12 #[.agg #[.int .u64 a0, .int .u64 a1, .int .u64 a2, .int .u64 a3], .agg #[.int .u64 b0, .int .u64 b1, .int .u64 b2, .int .u64 b3]] w fun e w' => e = .returned (.agg #[.int .u64 p0, .int .u64 p1, .int .u64 p2, .int .u64 p3]) ∧ Below w.heap.size w w') (WSub : ∀ w : World, Calls Tryz.prog 13 #[.agg #[.int .u64 a0, .int .u64 a1, .int .u64 a2, .int .u64 a3], .agg #[.int .u64 b0, .int .u64 b1, .int .u64 b2, .int .u64 b3]] w fun e w' => e = .returned (.agg #[.int .u64 q0, .int .u64 q1, .int .u64 q2, .int .u64 q3]) ∧ Below w.heap.size w w') (RSub : ∀ w : World, Calls Tryz.prog 14 #[.agg #[.int .u64 a0, .int .u64 a1, .int .u64 a2, .int .u64 a3], .agg #[.int .u64 b0, .int .u64 b1, .int .u64 b2, .int .u64 b3]] w fun e w' => e = .returned (.agg #[.int .u64 q0, .int .u64 q1, .int .u64 q2, .int .u64 q3]) ∧ Below w.heap.size w w') (WMul : ∀ w : World, Calls Tryz.prog 15 #[.agg #[.int .u64 a0, .int .u64 a1, .int .u64 a2, .int .u64 a3], .agg #[.int .u64 b0, .int .u64 b1, .int .u64 b2, .int .u64 b3]] w fun e w' => e = .returned (.agg #[.int .u64 r0, .int .u64 r1, .int .u64 r2, .int .u64 r3]) ∧ Below w.heap.size w w') (RMul : ∀ w : World, Calls Tryz.prog 16 #[.agg #[.int .u64 a0, .int .u64 a1, .int .u64 a2, .int .u64 a3], .agg #[.int .u64 b0, .int .u64 b1, .int .u64 b2, .int .u64 b3]] w fun e w' => e = .returned (.agg #[.int .u64 r0, .int .u64 r1, .int .u64 r2, .int .u64 r3]) ∧ Below w.heap.size w w') (WDiv : ∀ w : World, Calls Tryz.prog 17 #[.agg #[.int .u64 a0, .int .u64 a1, .int .u64 a2, .int .u64 a3], .agg #[.int .u64 b0, .int .u64 b1, .int .u64 b2, .int .u64 b3]] w fun e w' => e = .returned (.agg #[.int .u64 s0, .int .u64 s1, .int .u64 s2, .int .u64 s3]) ∧ Below w.heap.size w w') (RDiv : ∀ w : World, Calls Tryz.prog 18 #[.agg #[.int .u64 a0, .int .u64 a1, .int .u64 a2, .int .u64 a3], .agg #[.int .u64 b0, .int .u64 b1, .int .u64 b2, .int .u64 b3]] w fun e w' => e = .returned (.agg #[.int .u64 s0, .int .u64 s1, .int .u64 s2, .int .u64 s3]) ∧ Below w.heap.size w w') (WMod : ∀ w : World, Calls Tryz.prog 19 #[.agg #[.int .u64 a0, .int .u64 a1, .int .u64 a2, .int .u64 a3], .agg #[.int .u64 b0, .int .u64 b1, .int .u64 b2, .int .u64 b3]] w fun e w' => e = .returned (.agg #[.int .u64 t0, .int .u64 t1, .int .u64 t2, .int .u64 t3]) ∧ Below w.heap.size w w') (RMod : ∀ w : World, Calls Tryz.prog 20 #[.agg #[.int .u64 a0, .int .u64 a1, .int .u64 a2, .int .u64 a3], .agg #[.int .u64 b0, .int .u64 b1, .int .u64 b2, .int .u64 b3]] w fun e w' => e = .returned (.agg #[.int .u64 t0, .int .u64 t1, .int .u64 t2, .int .u64 t3]) ∧ Below w.heap.size w w') (w : World) :
    Calls Tryz.prog 3 #[.agg #[.int .u64 a0, .int .u64 a1, .int .u64 a2, .int .u64 a3], .agg #[.int .u64 b0, .int .u64 b1, .int .u64 b2, .int .u64 b3]] w fun e w' => e = .returned (.bool true) ∧ Below w.heap.size w w' := by
  have eqs := eqw_same
  have HWAdd : Hid (∀ w : World, Calls Tryz.prog 11 #[.agg #[.int .u64 a0, .int .u64 a1, .int .u64 a2, .int .u64 a3], .agg #[.int .u64 b0, .int .u64 b1, .int .u64 b2, .int .u64 b3]] w fun e w' => e = .returned (.agg #[.int .u64 p0, .int .u64 p1, .int .u64 p2, .int .u64 p3]) ∧ Below w.heap.size w w') := WAdd
  have HRAdd : Hid (∀ w : World, Calls Tryz.prog 12 #[.agg #[.int .u64 a0, .int .u64 a1, .int .u64 a2, .int .u64 a3], .agg #[.int .u64 b0, .int .u64 b1, .int .u64 b2, .int .u64 b3]] w fun e w' => e = .returned (.agg #[.int .u64 p0, .int .u64 p1, .int .u64 p2, .int .u64 p3]) ∧ Below w.heap.size w w') := RAdd
  have HWSub : Hid (∀ w : World, Calls Tryz.prog 13 #[.agg #[.int .u64 a0, .int .u64 a1, .int .u64 a2, .int .u64 a3], .agg #[.int .u64 b0, .int .u64 b1, .int .u64 b2, .int .u64 b3]] w fun e w' => e = .returned (.agg #[.int .u64 q0, .int .u64 q1, .int .u64 q2, .int .u64 q3]) ∧ Below w.heap.size w w') := WSub
  have HRSub : Hid (∀ w : World, Calls Tryz.prog 14 #[.agg #[.int .u64 a0, .int .u64 a1, .int .u64 a2, .int .u64 a3], .agg #[.int .u64 b0, .int .u64 b1, .int .u64 b2, .int .u64 b3]] w fun e w' => e = .returned (.agg #[.int .u64 q0, .int .u64 q1, .int .u64 q2, .int .u64 q3]) ∧ Below w.heap.size w w') := RSub
  have HWMul : Hid (∀ w : World, Calls Tryz.prog 15 #[.agg #[.int .u64 a0, .int .u64 a1, .int .u64 a2, .int .u64 a3], .agg #[.int .u64 b0, .int .u64 b1, .int .u64 b2, .int .u64 b3]] w fun e w' => e = .returned (.agg #[.int .u64 r0, .int .u64 r1, .int .u64 r2, .int .u64 r3]) ∧ Below w.heap.size w w') := WMul
  have HRMul : Hid (∀ w : World, Calls Tryz.prog 16 #[.agg #[.int .u64 a0, .int .u64 a1, .int .u64 a2, .int .u64 a3], .agg #[.int .u64 b0, .int .u64 b1, .int .u64 b2, .int .u64 b3]] w fun e w' => e = .returned (.agg #[.int .u64 r0, .int .u64 r1, .int .u64 r2, .int .u64 r3]) ∧ Below w.heap.size w w') := RMul
  have HWDiv : Hid (∀ w : World, Calls Tryz.prog 17 #[.agg #[.int .u64 a0, .int .u64 a1, .int .u64 a2, .int .u64 a3], .agg #[.int .u64 b0, .int .u64 b1, .int .u64 b2, .int .u64 b3]] w fun e w' => e = .returned (.agg #[.int .u64 s0, .int .u64 s1, .int .u64 s2, .int .u64 s3]) ∧ Below w.heap.size w w') := WDiv
  have HRDiv : Hid (∀ w : World, Calls Tryz.prog 18 #[.agg #[.int .u64 a0, .int .u64 a1, .int .u64 a2, .int .u64 a3], .agg #[.int .u64 b0, .int .u64 b1, .int .u64 b2, .int .u64 b3]] w fun e w' => e = .returned (.agg #[.int .u64 s0, .int .u64 s1, .int .u64 s2, .int .u64 s3]) ∧ Below w.heap.size w w') := RDiv
  have HWMod : Hid (∀ w : World, Calls Tryz.prog 19 #[.agg #[.int .u64 a0, .int .u64 a1, .int .u64 a2, .int .u64 a3], .agg #[.int .u64 b0, .int .u64 b1, .int .u64 b2, .int .u64 b3]] w fun e w' => e = .returned (.agg #[.int .u64 t0, .int .u64 t1, .int .u64 t2, .int .u64 t3]) ∧ Below w.heap.size w w') := WMod
  have HRMod : Hid (∀ w : World, Calls Tryz.prog 20 #[.agg #[.int .u64 a0, .int .u64 a1, .int .u64 a2, .int .u64 a3], .agg #[.int .u64 b0, .int .u64 b1, .int .u64 b2, .int .u64 b3]] w fun e w' => e = .returned (.agg #[.int .u64 t0, .int .u64 t1, .int .u64 t2, .int .u64 t3]) ∧ Below w.heap.size w w') := RMod
  clear WAdd RAdd WSub RSub WMul RMul WDiv RDiv WMod RMod
  go_enter Tryz.func3, Tryz.ntmps3
  go_upto_region 1 with fail
  have X1 : Hid (Bx w [(w.heap.size + 1, b0, b1, b2, b3), (w.heap.size, a0, a1, a2, a3)] ((w.alloc (.cells #[.int .u64 a0, .int .u64 a1, .int .u64 a2, .int .u64 a3] 24)).alloc (.cells #[.int .u64 b0, .int .u64 b1, .int .u64 b2, .int .u64 b3] 24))) := by
    have h := ((Bx.start w).alloc a0 a1 a2 a3).alloc b0 b1 b2 b3
    (try simp only [World.size_alloc] at h)
    exact h
  generalize ((w.alloc (.cells #[.int .u64 a0, .int .u64 a1, .int .u64 a2, .int .u64 a3] 24)).alloc (.cells #[.int .u64 b0, .int .u64 b1, .int .u64 b2, .int .u64 b3] 24)) = g2 at X1 ⊢
  refine wp_region_held_drew (S := fun w' => Bx w [(w.heap.size + 1, b0, b1, b2, b3), (w.heap.size, a0, a1, a2, a3)] w') (by kernel_rfl) X1.out.drew (fun hHeld => ?_)
  generalize g2.drew = g3 at hHeld ⊢
  clear X1
  refine wpAnyH_take (i := 0) (v := .agg #[.int .u64 a0, .int .u64 a1, .int .u64 a2, .int .u64 a3]) op0 (by kernel_rfl) (by kernel_rfl) (by kernel_rfl) (fun _ _ _ h => h) (Or.inl ⟨by rfl, fun W hS => ?_⟩) hHeld ?_
  · obtain ⟨c0, c1, c2, c3, _⟩ := hS.f0 (List.Mem.tail _ (List.Mem.head _))
    go_simp
  simp only [Act.put, List.setIfInBounds_toArray, List.set_cons_zero, List.set_cons_succ]
  refine wpAnyH_take (i := 1) (v := .agg #[.int .u64 b0, .int .u64 b1, .int .u64 b2, .int .u64 b3]) op1 (by kernel_rfl) (by kernel_rfl) (by kernel_rfl) (fun _ _ _ h => h) (Or.inl ⟨by rfl, fun W hS => ?_⟩) hHeld ?_
  · obtain ⟨c0, c1, c2, c3, _⟩ := hS.f0 (List.Mem.head _)
    go_simp
  simp only [Act.put, List.setIfInBounds_toArray, List.set_cons_zero, List.set_cons_succ]
  refine wpAnyH_take (i := 3) (v := .agg #[.int .u64 a0, .int .u64 a1, .int .u64 a2, .int .u64 a3]) op3 (by kernel_rfl) (by kernel_rfl) (by kernel_rfl) (fun _ _ _ h => h) (Or.inl ⟨by rfl, fun W hS => ?_⟩) hHeld ?_
  · obtain ⟨c0, c1, c2, c3, _⟩ := hS.f0 (List.Mem.tail _ (List.Mem.head _))
    go_simp
  simp only [Act.put, List.setIfInBounds_toArray, List.set_cons_zero, List.set_cons_succ]
  refine wpAnyH_take (i := 4) (v := .agg #[.int .u64 b0, .int .u64 b1, .int .u64 b2, .int .u64 b3]) op4 (by kernel_rfl) (by kernel_rfl) (by kernel_rfl) (fun _ _ _ h => h) (Or.inl ⟨by rfl, fun W hS => ?_⟩) hHeld ?_
  · obtain ⟨c0, c1, c2, c3, _⟩ := hS.f0 (List.Mem.head _)
    go_simp
  simp only [Act.put, List.setIfInBounds_toArray, List.set_cons_zero, List.set_cons_succ]
  refine wpAnyH_ready (rs := [2]) (by kernel_rfl) (by simp) ?_
  refine AllReadyH.cons op2 (fun K hK => ?_) AllReadyH.nil
  rw [if_pos (by rfl)]
  go_simp
  refine (HWAdd.out _).mono ?_
  rintro e g4 ⟨rfl, hB⟩
  have x5 : Bx w [(w.heap.size + 1, b0, b1, b2, b3), (w.heap.size, a0, a1, a2, a3)] g4 := hHeld.past hB
  clear hB hHeld
  (try go_wp2_with fail)
  refine hK.out _ _ x5 (fun _ => ?_)
  clear hK K
  refine wpAnyH_ready (rs := [5]) (by kernel_rfl) (by simp) ?_
  refine AllReadyH.cons op5 (fun K hK => ?_) AllReadyH.nil
  rw [if_pos (by rfl)]
  go_simp
  refine (HRAdd.out _).mono ?_
  rintro e g6 ⟨rfl, hB⟩
  have x7 : Bx w [(w.heap.size + 1, b0, b1, b2, b3), (w.heap.size, a0, a1, a2, a3)] g6 := x5.past hB
  clear hB x5
  (try go_wp2_with fail)
  refine hK.out _ _ x7 (fun _ => ?_)
  clear hK K
  refine wpAnyH_take (i := 6) (v := .bool false) op6 (by kernel_rfl) (by kernel_rfl) (by kernel_rfl) (fun _ _ _ h => h) (Or.inl ⟨by rfl, fun W hS => ?_⟩) x7 ?_
  · go_simp
  simp only [Act.put, List.setIfInBounds_toArray, List.set_cons_zero, List.set_cons_succ]
  refine wpAnyH_take (i := 7) (v := .bool false) op7 (by kernel_rfl) (by kernel_rfl) (by kernel_rfl) (fun _ _ _ h => h) (Or.inl ⟨by rfl, fun W hS => ?_⟩) x7 ?_
  · go_simp
  simp only [Act.put, List.setIfInBounds_toArray, List.set_cons_zero, List.set_cons_succ]
  refine wpAnyH_take (i := 8) (v := .agg #[.int .u64 a0, .int .u64 a1, .int .u64 a2, .int .u64 a3]) op8 (by kernel_rfl) (by kernel_rfl) (by kernel_rfl) (fun _ _ _ h => h) (Or.inl ⟨by rfl, fun W hS => ?_⟩) x7 ?_
  · obtain ⟨c0, c1, c2, c3, _⟩ := hS.f0 (List.Mem.tail _ (List.Mem.head _))
    go_simp
  simp only [Act.put, List.setIfInBounds_toArray, List.set_cons_zero, List.set_cons_succ]
  refine wpAnyH_take (i := 9) (v := .agg #[.int .u64 b0, .int .u64 b1, .int .u64 b2, .int .u64 b3]) op9 (by kernel_rfl) (by kernel_rfl) (by kernel_rfl) (fun _ _ _ h => h) (Or.inl ⟨by rfl, fun W hS => ?_⟩) x7 ?_
  · obtain ⟨c0, c1, c2, c3, _⟩ := hS.f0 (List.Mem.head _)
    go_simp
  simp only [Act.put, List.setIfInBounds_toArray, List.set_cons_zero, List.set_cons_succ]
  refine wpAnyH_take (i := 11) (v := .agg #[.int .u64 a0, .int .u64 a1, .int .u64 a2, .int .u64 a3]) op11 (by kernel_rfl) (by kernel_rfl) (by kernel_rfl) (fun _ _ _ h => h) (Or.inl ⟨by rfl, fun W hS => ?_⟩) x7 ?_
  · obtain ⟨c0, c1, c2, c3, _⟩ := hS.f0 (List.Mem.tail _ (List.Mem.head _))
    go_simp
  simp only [Act.put, List.setIfInBounds_toArray, List.set_cons_zero, List.set_cons_succ]
  refine wpAnyH_take (i := 12) (v := .agg #[.int .u64 b0, .int .u64 b1, .int .u64 b2, .int .u64 b3]) op12 (by kernel_rfl) (by kernel_rfl) (by kernel_rfl) (fun _ _ _ h => h) (Or.inl ⟨by rfl, fun W hS => ?_⟩) x7 ?_
  · obtain ⟨c0, c1, c2, c3, _⟩ := hS.f0 (List.Mem.head _)
    go_simp
  simp only [Act.put, List.setIfInBounds_toArray, List.set_cons_zero, List.set_cons_succ]
  refine wpAnyH_ready (rs := [10]) (by kernel_rfl) (by simp) ?_
  refine AllReadyH.cons op10 (fun K hK => ?_) AllReadyH.nil
  rw [if_pos (by rfl)]
  go_simp
  refine (HWSub.out _).mono ?_
  rintro e g8 ⟨rfl, hB⟩
  have x9 : Bx w [(w.heap.size + 1, b0, b1, b2, b3), (w.heap.size, a0, a1, a2, a3)] g8 := x7.past hB
  clear hB x7
  (try go_wp2_with fail)
  refine hK.out _ _ x9 (fun _ => ?_)
  clear hK K
  refine wpAnyH_ready (rs := [13]) (by kernel_rfl) (by simp) ?_
  refine AllReadyH.cons op13 (fun K hK => ?_) AllReadyH.nil
  rw [if_pos (by rfl)]
  go_simp
  refine (HRSub.out _).mono ?_
  rintro e g10 ⟨rfl, hB⟩
  have x11 : Bx w [(w.heap.size + 1, b0, b1, b2, b3), (w.heap.size, a0, a1, a2, a3)] g10 := x9.past hB
  clear hB x9
  (try go_wp2_with fail)
  refine hK.out _ _ x11 (fun _ => ?_)
  clear hK K
  refine wpAnyH_take (i := 14) (v := .bool false) op14 (by kernel_rfl) (by kernel_rfl) (by kernel_rfl) (fun _ _ _ h => h) (Or.inl ⟨by rfl, fun W hS => ?_⟩) x11 ?_
  · go_simp
  simp only [Act.put, List.setIfInBounds_toArray, List.set_cons_zero, List.set_cons_succ]
  refine wpAnyH_take (i := 15) (v := .bool false) op15 (by kernel_rfl) (by kernel_rfl) (by kernel_rfl) (fun _ _ _ h => h) (Or.inl ⟨by rfl, fun W hS => ?_⟩) x11 ?_
  · go_simp
  simp only [Act.put, List.setIfInBounds_toArray, List.set_cons_zero, List.set_cons_succ]
  refine wpAnyH_take (i := 16) (v := .bool false) op16 (by kernel_rfl) (by kernel_rfl) (by kernel_rfl) (fun _ _ _ h => h) (Or.inl ⟨by rfl, fun W hS => ?_⟩) x11 ?_
  · go_simp
  simp only [Act.put, List.setIfInBounds_toArray, List.set_cons_zero, List.set_cons_succ]
  refine wpAnyH_take (i := 17) (v := .agg #[.int .u64 a0, .int .u64 a1, .int .u64 a2, .int .u64 a3]) op17 (by kernel_rfl) (by kernel_rfl) (by kernel_rfl) (fun _ _ _ h => h) (Or.inl ⟨by rfl, fun W hS => ?_⟩) x11 ?_
  · obtain ⟨c0, c1, c2, c3, _⟩ := hS.f0 (List.Mem.tail _ (List.Mem.head _))
    go_simp
  simp only [Act.put, List.setIfInBounds_toArray, List.set_cons_zero, List.set_cons_succ]
  refine wpAnyH_take (i := 18) (v := .agg #[.int .u64 b0, .int .u64 b1, .int .u64 b2, .int .u64 b3]) op18 (by kernel_rfl) (by kernel_rfl) (by kernel_rfl) (fun _ _ _ h => h) (Or.inl ⟨by rfl, fun W hS => ?_⟩) x11 ?_
  · obtain ⟨c0, c1, c2, c3, _⟩ := hS.f0 (List.Mem.head _)
    go_simp
  simp only [Act.put, List.setIfInBounds_toArray, List.set_cons_zero, List.set_cons_succ]
  refine wpAnyH_take (i := 20) (v := .agg #[.int .u64 a0, .int .u64 a1, .int .u64 a2, .int .u64 a3]) op20 (by kernel_rfl) (by kernel_rfl) (by kernel_rfl) (fun _ _ _ h => h) (Or.inl ⟨by rfl, fun W hS => ?_⟩) x11 ?_
  · obtain ⟨c0, c1, c2, c3, _⟩ := hS.f0 (List.Mem.tail _ (List.Mem.head _))
    go_simp
  simp only [Act.put, List.setIfInBounds_toArray, List.set_cons_zero, List.set_cons_succ]
  refine wpAnyH_take (i := 21) (v := .agg #[.int .u64 b0, .int .u64 b1, .int .u64 b2, .int .u64 b3]) op21 (by kernel_rfl) (by kernel_rfl) (by kernel_rfl) (fun _ _ _ h => h) (Or.inl ⟨by rfl, fun W hS => ?_⟩) x11 ?_
  · obtain ⟨c0, c1, c2, c3, _⟩ := hS.f0 (List.Mem.head _)
    go_simp
  simp only [Act.put, List.setIfInBounds_toArray, List.set_cons_zero, List.set_cons_succ]
  refine wpAnyH_ready (rs := [19]) (by kernel_rfl) (by simp) ?_
  refine AllReadyH.cons op19 (fun K hK => ?_) AllReadyH.nil
  rw [if_pos (by rfl)]
  go_simp
  refine (HWMul.out _).mono ?_
  rintro e g12 ⟨rfl, hB⟩
  have x13 : Bx w [(w.heap.size + 1, b0, b1, b2, b3), (w.heap.size, a0, a1, a2, a3)] g12 := x11.past hB
  clear hB x11
  (try go_wp2_with fail)
  refine hK.out _ _ x13 (fun _ => ?_)
  clear hK K
  refine wpAnyH_ready (rs := [22]) (by kernel_rfl) (by simp) ?_
  refine AllReadyH.cons op22 (fun K hK => ?_) AllReadyH.nil
  rw [if_pos (by rfl)]
  go_simp
  refine (HRMul.out _).mono ?_
  rintro e g14 ⟨rfl, hB⟩
  have x15 : Bx w [(w.heap.size + 1, b0, b1, b2, b3), (w.heap.size, a0, a1, a2, a3)] g14 := x13.past hB
  clear hB x13
  (try go_wp2_with fail)
  refine hK.out _ _ x15 (fun _ => ?_)
  clear hK K
  refine wpAnyH_take (i := 23) (v := .bool false) op23 (by kernel_rfl) (by kernel_rfl) (by kernel_rfl) (fun _ _ _ h => h) (Or.inl ⟨by rfl, fun W hS => ?_⟩) x15 ?_
  · go_simp
  simp only [Act.put, List.setIfInBounds_toArray, List.set_cons_zero, List.set_cons_succ]
  refine wpAnyH_take (i := 24) (v := .bool false) op24 (by kernel_rfl) (by kernel_rfl) (by kernel_rfl) (fun _ _ _ h => h) (Or.inl ⟨by rfl, fun W hS => ?_⟩) x15 ?_
  · go_simp
  simp only [Act.put, List.setIfInBounds_toArray, List.set_cons_zero, List.set_cons_succ]
  refine wpAnyH_done (by kernel_rfl) ?_ _
  have X16 : Hid (Bx w [(w.heap.size + 1, b0, b1, b2, b3), (w.heap.size, a0, a1, a2, a3)] g14) := x15
  clear x15
  go_upto_region 3 with fail
  refine wp_region_held_drew (S := fun w' => Bx w [(w.heap.size + 1, b0, b1, b2, b3), (w.heap.size, a0, a1, a2, a3)] w') (by kernel_rfl) X16.out.drew (fun hHeld => ?_)
  generalize g14.drew = g17 at hHeld ⊢
  clear X16
  refine wpAnyH_take (i := 0) (v := .agg #[.int .u64 a0, .int .u64 a1, .int .u64 a2, .int .u64 a3]) op0 (by kernel_rfl) (by kernel_rfl) (by kernel_rfl) (fun _ _ _ h => h) (Or.inl ⟨by rfl, fun W hS => ?_⟩) hHeld ?_
  · obtain ⟨c0, c1, c2, c3, _⟩ := hS.f0 (List.Mem.tail _ (List.Mem.head _))
    go_simp
  simp only [Act.put, List.setIfInBounds_toArray, List.set_cons_zero, List.set_cons_succ]
  refine wpAnyH_take (i := 1) (v := .agg #[.int .u64 b0, .int .u64 b1, .int .u64 b2, .int .u64 b3]) op1 (by kernel_rfl) (by kernel_rfl) (by kernel_rfl) (fun _ _ _ h => h) (Or.inl ⟨by rfl, fun W hS => ?_⟩) hHeld ?_
  · obtain ⟨c0, c1, c2, c3, _⟩ := hS.f0 (List.Mem.head _)
    go_simp
  simp only [Act.put, List.setIfInBounds_toArray, List.set_cons_zero, List.set_cons_succ]
  refine wpAnyH_take (i := 3) (v := .agg #[.int .u64 a0, .int .u64 a1, .int .u64 a2, .int .u64 a3]) op3 (by kernel_rfl) (by kernel_rfl) (by kernel_rfl) (fun _ _ _ h => h) (Or.inl ⟨by rfl, fun W hS => ?_⟩) hHeld ?_
  · obtain ⟨c0, c1, c2, c3, _⟩ := hS.f0 (List.Mem.tail _ (List.Mem.head _))
    go_simp
  simp only [Act.put, List.setIfInBounds_toArray, List.set_cons_zero, List.set_cons_succ]
  refine wpAnyH_take (i := 4) (v := .agg #[.int .u64 b0, .int .u64 b1, .int .u64 b2, .int .u64 b3]) op4 (by kernel_rfl) (by kernel_rfl) (by kernel_rfl) (fun _ _ _ h => h) (Or.inl ⟨by rfl, fun W hS => ?_⟩) hHeld ?_
  · obtain ⟨c0, c1, c2, c3, _⟩ := hS.f0 (List.Mem.head _)
    go_simp
  simp only [Act.put, List.setIfInBounds_toArray, List.set_cons_zero, List.set_cons_succ]
  refine wpAnyH_ready (rs := [2]) (by kernel_rfl) (by simp) ?_
  refine AllReadyH.cons op2 (fun K hK => ?_) AllReadyH.nil
  rw [if_pos (by rfl)]
  go_simp
  refine (HWDiv.out _).mono ?_
  rintro e g18 ⟨rfl, hB⟩
  have x19 : Bx w [(w.heap.size + 1, b0, b1, b2, b3), (w.heap.size, a0, a1, a2, a3)] g18 := hHeld.past hB
  clear hB hHeld
  (try go_wp2_with fail)
  refine hK.out _ _ x19 (fun _ => ?_)
  clear hK K
  refine wpAnyH_ready (rs := [5]) (by kernel_rfl) (by simp) ?_
  refine AllReadyH.cons op5 (fun K hK => ?_) AllReadyH.nil
  rw [if_pos (by rfl)]
  go_simp
  refine (HRDiv.out _).mono ?_
  rintro e g20 ⟨rfl, hB⟩
  have x21 : Bx w [(w.heap.size + 1, b0, b1, b2, b3), (w.heap.size, a0, a1, a2, a3)] g20 := x19.past hB
  clear hB x19
  (try go_wp2_with fail)
  refine hK.out _ _ x21 (fun _ => ?_)
  clear hK K
  refine wpAnyH_take (i := 6) (v := .bool true) op6 (by kernel_rfl) (by kernel_rfl) (by kernel_rfl) (fun _ _ _ h => h) (Or.inl ⟨by rfl, fun W hS => ?_⟩) x21 ?_
  · go_simp
  simp only [Act.put, List.setIfInBounds_toArray, List.set_cons_zero, List.set_cons_succ]
  refine wpAnyH_take (i := 7) (v := .bool true) op7 (by kernel_rfl) (by kernel_rfl) (by kernel_rfl) (fun _ _ _ h => h) (Or.inl ⟨by rfl, fun W hS => ?_⟩) x21 ?_
  · go_simp
  simp only [Act.put, List.setIfInBounds_toArray, List.set_cons_zero, List.set_cons_succ]
  refine wpAnyH_take (i := 8) (v := .agg #[.int .u64 a0, .int .u64 a1, .int .u64 a2, .int .u64 a3]) op8 (by kernel_rfl) (by kernel_rfl) (by kernel_rfl) (fun _ _ _ h => h) (Or.inl ⟨by rfl, fun W hS => ?_⟩) x21 ?_
  · obtain ⟨c0, c1, c2, c3, _⟩ := hS.f0 (List.Mem.tail _ (List.Mem.head _))
    go_simp
  simp only [Act.put, List.setIfInBounds_toArray, List.set_cons_zero, List.set_cons_succ]
  refine wpAnyH_take (i := 9) (v := .agg #[.int .u64 b0, .int .u64 b1, .int .u64 b2, .int .u64 b3]) op9 (by kernel_rfl) (by kernel_rfl) (by kernel_rfl) (fun _ _ _ h => h) (Or.inl ⟨by rfl, fun W hS => ?_⟩) x21 ?_
  · obtain ⟨c0, c1, c2, c3, _⟩ := hS.f0 (List.Mem.head _)
    go_simp
  simp only [Act.put, List.setIfInBounds_toArray, List.set_cons_zero, List.set_cons_succ]
  refine wpAnyH_take (i := 11) (v := .agg #[.int .u64 a0, .int .u64 a1, .int .u64 a2, .int .u64 a3]) op11 (by kernel_rfl) (by kernel_rfl) (by kernel_rfl) (fun _ _ _ h => h) (Or.inl ⟨by rfl, fun W hS => ?_⟩) x21 ?_
  · obtain ⟨c0, c1, c2, c3, _⟩ := hS.f0 (List.Mem.tail _ (List.Mem.head _))
    go_simp
  simp only [Act.put, List.setIfInBounds_toArray, List.set_cons_zero, List.set_cons_succ]
  refine wpAnyH_take (i := 12) (v := .agg #[.int .u64 b0, .int .u64 b1, .int .u64 b2, .int .u64 b3]) op12 (by kernel_rfl) (by kernel_rfl) (by kernel_rfl) (fun _ _ _ h => h) (Or.inl ⟨by rfl, fun W hS => ?_⟩) x21 ?_
  · obtain ⟨c0, c1, c2, c3, _⟩ := hS.f0 (List.Mem.head _)
    go_simp
  simp only [Act.put, List.setIfInBounds_toArray, List.set_cons_zero, List.set_cons_succ]
  refine wpAnyH_ready (rs := [10]) (by kernel_rfl) (by simp) ?_
  refine AllReadyH.cons op10 (fun K hK => ?_) AllReadyH.nil
  rw [if_pos (by rfl)]
  go_simp
  refine (HWMod.out _).mono ?_
  rintro e g22 ⟨rfl, hB⟩
  have x23 : Bx w [(w.heap.size + 1, b0, b1, b2, b3), (w.heap.size, a0, a1, a2, a3)] g22 := x21.past hB
  clear hB x21
  (try go_wp2_with fail)
  refine hK.out _ _ x23 (fun _ => ?_)
  clear hK K
  refine wpAnyH_ready (rs := [13]) (by kernel_rfl) (by simp) ?_
  refine AllReadyH.cons op13 (fun K hK => ?_) AllReadyH.nil
  rw [if_pos (by rfl)]
  go_simp
  refine (HRMod.out _).mono ?_
  rintro e g24 ⟨rfl, hB⟩
  have x25 : Bx w [(w.heap.size + 1, b0, b1, b2, b3), (w.heap.size, a0, a1, a2, a3)] g24 := x23.past hB
  clear hB x23
  (try go_wp2_with fail)
  refine hK.out _ _ x25 (fun _ => ?_)
  clear hK K
  refine wpAnyH_take (i := 14) (v := .bool true) op14 (by kernel_rfl) (by kernel_rfl) (by kernel_rfl) (fun _ _ _ h => h) (Or.inl ⟨by rfl, fun W hS => ?_⟩) x25 ?_
  · go_simp
  simp only [Act.put, List.setIfInBounds_toArray, List.set_cons_zero, List.set_cons_succ]
  refine wpAnyH_take (i := 15) (v := .bool true) op15 (by kernel_rfl) (by kernel_rfl) (by kernel_rfl) (fun _ _ _ h => h) (Or.inl ⟨by rfl, fun W hS => ?_⟩) x25 ?_
  · go_simp
  simp only [Act.put, List.setIfInBounds_toArray, List.set_cons_zero, List.set_cons_succ]
  refine wpAnyH_take (i := 16) (v := .bool true) op16 (by kernel_rfl) (by kernel_rfl) (by kernel_rfl) (fun _ _ _ h => h) (Or.inl ⟨by rfl, fun W hS => ?_⟩) x25 ?_
  · go_simp
  simp only [Act.put, List.setIfInBounds_toArray, List.set_cons_zero, List.set_cons_succ]
  refine wpAnyH_ready (rs := [17]) (by kernel_rfl) (by simp) ?_
  refine AllReadyH.cons op17 (fun K hK => ?_) AllReadyH.nil
  rw [if_pos (by rfl)]
  go_simp
  refine (awake_any _).mono ?_
  rintro e g26 ⟨rfl, hB⟩
  have x27 : Bx w [(w.heap.size + 1, b0, b1, b2, b3), (w.heap.size, a0, a1, a2, a3)] g26 := x25.past hB
  clear hB x25
  (try go_wp2_with fail)
  refine hK.out _ _ x27 (fun _ => ?_)
  clear hK K
  refine wpAnyH_take (i := 18) (v := .bool true) op18 (by kernel_rfl) (by kernel_rfl) (by kernel_rfl) (fun _ _ _ h => h) (Or.inl ⟨by rfl, fun W hS => ?_⟩) x27 ?_
  · go_simp
  simp only [Act.put, List.setIfInBounds_toArray, List.set_cons_zero, List.set_cons_succ]
  refine wpAnyH_take (i := 19) (v := .bool true) op19 (by kernel_rfl) (by kernel_rfl) (by kernel_rfl) (fun _ _ _ h => h) (Or.inl ⟨by rfl, fun W hS => ?_⟩) x27 ?_
  · go_simp
  simp only [Act.put, List.setIfInBounds_toArray, List.set_cons_zero, List.set_cons_succ]
  refine wpAnyH_done (by kernel_rfl) ?_ _
  have X28 : Hid (Bx w [(w.heap.size + 1, b0, b1, b2, b3), (w.heap.size, a0, a1, a2, a3)] g26) := x27
  clear x27
  go_wp2
  go_ret
  exact ⟨rfl, X28.out.bel⟩
theorem wordReckons_walk (x y : Int) (a0 a1 a2 a3 b0 b1 b2 b3 : Int) (w : World) (ha : IsW x a0 a1 a2 a3) (hb : IsW y b0 b1 b2 b3) :
    Calls Tryz.prog 3 #[.agg #[.int .u64 a0, .int .u64 a1, .int .u64 a2, .int .u64 a3], .agg #[.int .u64 b0, .int .u64 b1, .int .u64 b2, .int .u64 b3]] w fun e w' => e = .returned (.bool true) ∧ Below w.heap.size w w' := by
  obtain ⟨p0, p1, p2, p3, hp⟩ := isW_ex (x + y)
  obtain ⟨q0, q1, q2, q3, hq⟩ := isW_ex (x - y)
  obtain ⟨r0, r1, r2, r3, hr⟩ := isW_ex (x * y)
  obtain ⟨s0, s1, s2, s3, hs⟩ := isW_ex (dv (x % MM) (y % MM))
  obtain ⟨t0, t1, t2, t3, ht⟩ := isW_ex (md (x % MM) (y % MM))
  exact wrk_c a0 a1 a2 a3 b0 b1 b2 b3 p0 p1 p2 p3 q0 q1 q2 q3 r0 r1 r2 r3 s0 s1 s2 s3 t0 t1 t2 t3 (fun w => add_is x y a0 a1 a2 a3 b0 b1 b2 b3 p0 p1 p2 p3 w ha hb hp) (fun w => radd_is x y a0 a1 a2 a3 b0 b1 b2 b3 p0 p1 p2 p3 w ha hb hp) (fun w => sub_is x y a0 a1 a2 a3 b0 b1 b2 b3 q0 q1 q2 q3 w ha hb hq) (fun w => rsub_is x y a0 a1 a2 a3 b0 b1 b2 b3 q0 q1 q2 q3 w ha hb hq) (fun w => mul_is x y a0 a1 a2 a3 b0 b1 b2 b3 r0 r1 r2 r3 w ha hb hr) (fun w => rmul_is x y a0 a1 a2 a3 b0 b1 b2 b3 r0 r1 r2 r3 w ha hb hr) (fun w => div_is x y a0 a1 a2 a3 b0 b1 b2 b3 s0 s1 s2 s3 w ha hb hs) (fun w => rdiv_is x y a0 a1 a2 a3 b0 b1 b2 b3 s0 s1 s2 s3 w ha hb hs) (fun w => mod_is x y a0 a1 a2 a3 b0 b1 b2 b3 t0 t1 t2 t3 w ha hb ht) (fun w => rmod_is x y a0 a1 a2 a3 b0 b1 b2 b3 t0 t1 t2 t3 w ha hb ht) w
end Go.Proofs.YtpadpmkfhljiiaaGreat
