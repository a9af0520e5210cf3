/- WordSignedDivides: the walk, for two signs: the law returns true and turns nothing that was there. -/
import Derived.Test.YtpadpmkfhljiiaaSg
import Derived.Test.YtpadpmkfhljiiaaWd
namespace Go.Proofs.Ytpadpmkfhljiiaa
open Go.RowKit
set_option maxHeartbeats 4000000 in
set_option maxRecDepth 100000 in
theorem wsd_000 (a0 a1 a2 a3 b0 b1 b2 b3 u0 u1 u2 u3 v0 v1 v2 v3 q0 q1 q2 q3 r0 r1 r2 r3 m0 m1 m2 m3 : Int) (WA : ∀ w : World, Calls Try.prog 40 #[.agg #[.int .u64 a0, .int .u64 a1, .int .u64 a2, .int .u64 a3]] w fun e w' => e = .returned (.agg #[.int .u64 u0, .int .u64 u1, .int .u64 u2, .int .u64 u3]) ∧ Below w.heap.size w w') (WB : ∀ w : World, Calls Try.prog 40 #[.agg #[.int .u64 b0, .int .u64 b1, .int .u64 b2, .int .u64 b3]] w fun e w' => e = .returned (.agg #[.int .u64 v0, .int .u64 v1, .int .u64 v2, .int .u64 v3]) ∧ Below w.heap.size w w') (DI : ∀ w : World, Calls Try.prog 38 #[.agg #[.int .u64 u0, .int .u64 u1, .int .u64 u2, .int .u64 u3], .agg #[.int .u64 v0, .int .u64 v1, .int .u64 v2, .int .u64 v3]] w fun e w' => e = .returned (.agg #[.int .u64 q0, .int .u64 q1, .int .u64 q2, .int .u64 q3]) ∧ Below w.heap.size w w') (MO : ∀ w : World, Calls Try.prog 39 #[.agg #[.int .u64 u0, .int .u64 u1, .int .u64 u2, .int .u64 u3], .agg #[.int .u64 v0, .int .u64 v1, .int .u64 v2, .int .u64 v3]] w fun e w' => e = .returned (.agg #[.int .u64 r0, .int .u64 r1, .int .u64 r2, .int .u64 r3]) ∧ Below w.heap.size w w') (SA : ∀ w : World, Calls Try.prog 41 #[.agg #[.int .u64 a0, .int .u64 a1, .int .u64 a2, .int .u64 a3]] w fun e w' => e = .returned (.bool false) ∧ Below w.heap.size w w') (SB : ∀ w : World, Calls Try.prog 41 #[.agg #[.int .u64 b0, .int .u64 b1, .int .u64 b2, .int .u64 b3]] w fun e w' => e = .returned (.bool false) ∧ Below w.heap.size w w') (SD : ∀ w : World, Calls Try.prog 42 #[.agg #[.int .u64 a0, .int .u64 a1, .int .u64 a2, .int .u64 a3], .agg #[.int .u64 b0, .int .u64 b1, .int .u64 b2, .int .u64 b3]] w fun e w' => e = .returned (.agg #[.int .u64 q0, .int .u64 q1, .int .u64 q2, .int .u64 q3]) ∧ Below w.heap.size w w') (SM : ∀ w : World, Calls Try.prog 43 #[.agg #[.int .u64 a0, .int .u64 a1, .int .u64 a2, .int .u64 a3], .agg #[.int .u64 b0, .int .u64 b1, .int .u64 b2, .int .u64 b3]] w fun e w' => e = .returned (.agg #[.int .u64 r0, .int .u64 r1, .int .u64 r2, .int .u64 r3]) ∧ Below w.heap.size w w') (MU : ∀ w : World, Calls Try.prog 35 #[.agg #[.int .u64 q0, .int .u64 q1, .int .u64 q2, .int .u64 q3], .agg #[.int .u64 b0, .int .u64 b1, .int .u64 b2, .int .u64 b3]] w fun e w' => e = .returned (.agg #[.int .u64 m0, .int .u64 m1, .int .u64 m2, .int .u64 m3]) ∧ Below w.heap.size w w') (AD : ∀ w : World, Calls Try.prog 33 #[.agg #[.int .u64 m0, .int .u64 m1, .int .u64 m2, .int .u64 m3], .agg #[.int .u64 r0, .int .u64 r1, .int .u64 r2, .int .u64 r3]] w fun e w' => e = .returned (.agg #[.int .u64 a0, .int .u64 a1, .int .u64 a2, .int .u64 a3]) ∧ Below w.heap.size w w') (E0 : ∀ W : World, Sem.run Try.prog (Op.equalIn 10000 24 (.agg #[.int .u64 b0, .int .u64 b1, .int .u64 b2, .int .u64 b3]) (.agg #[.int .u64 0, .int .u64 0, .int .u64 0, .int .u64 0])) W = .ok false W) (w : World) :
    Calls Try.prog 8 #[.agg #[.int .u64 a0, .int .u64 a1, .int .u64 a2, .int .u64 a3], .agg #[.int .u64 b0, .int .u64 b1, .int .u64 b2, .int .u64 b3]] w fun e w' => e = .returned (.bool true) ∧ Below w.heap.size w w' := by
  have eqs := eqw_same
  have HWA : Hid (∀ w : World, Calls Try.prog 40 #[.agg #[.int .u64 a0, .int .u64 a1, .int .u64 a2, .int .u64 a3]] w fun e w' => e = .returned (.agg #[.int .u64 u0, .int .u64 u1, .int .u64 u2, .int .u64 u3]) ∧ Below w.heap.size w w') := WA
  have HWB : Hid (∀ w : World, Calls Try.prog 40 #[.agg #[.int .u64 b0, .int .u64 b1, .int .u64 b2, .int .u64 b3]] w fun e w' => e = .returned (.agg #[.int .u64 v0, .int .u64 v1, .int .u64 v2, .int .u64 v3]) ∧ Below w.heap.size w w') := WB
  have HDI : Hid (∀ w : World, Calls Try.prog 38 #[.agg #[.int .u64 u0, .int .u64 u1, .int .u64 u2, .int .u64 u3], .agg #[.int .u64 v0, .int .u64 v1, .int .u64 v2, .int .u64 v3]] w fun e w' => e = .returned (.agg #[.int .u64 q0, .int .u64 q1, .int .u64 q2, .int .u64 q3]) ∧ Below w.heap.size w w') := DI
  have HMO : Hid (∀ w : World, Calls Try.prog 39 #[.agg #[.int .u64 u0, .int .u64 u1, .int .u64 u2, .int .u64 u3], .agg #[.int .u64 v0, .int .u64 v1, .int .u64 v2, .int .u64 v3]] w fun e w' => e = .returned (.agg #[.int .u64 r0, .int .u64 r1, .int .u64 r2, .int .u64 r3]) ∧ Below w.heap.size w w') := MO
  have HSA : Hid (∀ w : World, Calls Try.prog 41 #[.agg #[.int .u64 a0, .int .u64 a1, .int .u64 a2, .int .u64 a3]] w fun e w' => e = .returned (.bool false) ∧ Below w.heap.size w w') := SA
  have HSB : Hid (∀ w : World, Calls Try.prog 41 #[.agg #[.int .u64 b0, .int .u64 b1, .int .u64 b2, .int .u64 b3]] w fun e w' => e = .returned (.bool false) ∧ Below w.heap.size w w') := SB
  have HSD : Hid (∀ w : World, Calls Try.prog 42 #[.agg #[.int .u64 a0, .int .u64 a1, .int .u64 a2, .int .u64 a3], .agg #[.int .u64 b0, .int .u64 b1, .int .u64 b2, .int .u64 b3]] w fun e w' => e = .returned (.agg #[.int .u64 q0, .int .u64 q1, .int .u64 q2, .int .u64 q3]) ∧ Below w.heap.size w w') := SD
  have HSM : Hid (∀ w : World, Calls Try.prog 43 #[.agg #[.int .u64 a0, .int .u64 a1, .int .u64 a2, .int .u64 a3], .agg #[.int .u64 b0, .int .u64 b1, .int .u64 b2, .int .u64 b3]] w fun e w' => e = .returned (.agg #[.int .u64 r0, .int .u64 r1, .int .u64 r2, .int .u64 r3]) ∧ Below w.heap.size w w') := SM
  have HMU : Hid (∀ w : World, Calls Try.prog 35 #[.agg #[.int .u64 q0, .int .u64 q1, .int .u64 q2, .int .u64 q3], .agg #[.int .u64 b0, .int .u64 b1, .int .u64 b2, .int .u64 b3]] w fun e w' => e = .returned (.agg #[.int .u64 m0, .int .u64 m1, .int .u64 m2, .int .u64 m3]) ∧ Below w.heap.size w w') := MU
  have HAD : Hid (∀ w : World, Calls Try.prog 33 #[.agg #[.int .u64 m0, .int .u64 m1, .int .u64 m2, .int .u64 m3], .agg #[.int .u64 r0, .int .u64 r1, .int .u64 r2, .int .u64 r3]] w fun e w' => e = .returned (.agg #[.int .u64 a0, .int .u64 a1, .int .u64 a2, .int .u64 a3]) ∧ Below w.heap.size w w') := AD
  clear WA WB DI MO SA SB SD SM MU AD
  go_enter Try.func8, Try.ntmps8
  go_upto_region 1 with fail
  have X1 : Hid (Bx w [(w.heap.size + 1, b0, b1, b2, b3), (w.heap.size, a0, a1, a2, a3)] ((w.alloc (.cells #[.int .u64 a0, .int .u64 a1, .int .u64 a2, .int .u64 a3] 24)).alloc (.cells #[.int .u64 b0, .int .u64 b1, .int .u64 b2, .int .u64 b3] 24))) := by
    have h := ((Bx.start w).alloc a0 a1 a2 a3).alloc b0 b1 b2 b3
    (try simp only [World.size_alloc] at h)
    exact h
  generalize ((w.alloc (.cells #[.int .u64 a0, .int .u64 a1, .int .u64 a2, .int .u64 a3] 24)).alloc (.cells #[.int .u64 b0, .int .u64 b1, .int .u64 b2, .int .u64 b3] 24)) = g2 at X1 ⊢
  go_cut [5] (fun sx wx => ∃ bk3 : Nat, sx = .pointer (some ⟨bk3, 0, none⟩) ∧ w.heap.size + 1 < bk3 ∧ w.heap.size < bk3 ∧ Bx w [(bk3, q0, q1, q2, q3), (w.heap.size + 1, b0, b1, b2, b3), (w.heap.size, a0, a1, a2, a3)] wx)
  case first =>
    refine wp_region_held_drew (S := fun w' => Bx w [(w.heap.size + 1, b0, b1, b2, b3), (w.heap.size, a0, a1, a2, a3)] w') (by kernel_rfl) X1.out.drew (fun hHeld => ?_)
    generalize g2.drew = g4 at hHeld ⊢
    refine wpAnyH_take (i := 0) (v := .agg #[.int .u64 a0, .int .u64 a1, .int .u64 a2, .int .u64 a3]) op0 (by kernel_rfl) (by kernel_rfl) (by kernel_rfl) (fun _ _ _ h => h) (Or.inl ⟨by rfl, fun W hS => ?_⟩) hHeld ?_
    · obtain ⟨c0, c1, c2, c3, _⟩ := hS.f0 (List.Mem.tail _ (List.Mem.head _))
      go_simp
    simp only [Act.put, List.setIfInBounds_toArray, List.set_cons_zero, List.set_cons_succ]
    refine wpAnyH_take (i := 2) (v := .agg #[.int .u64 b0, .int .u64 b1, .int .u64 b2, .int .u64 b3]) op2 (by kernel_rfl) (by kernel_rfl) (by kernel_rfl) (fun _ _ _ h => h) (Or.inl ⟨by rfl, fun W hS => ?_⟩) hHeld ?_
    · obtain ⟨c0, c1, c2, c3, _⟩ := hS.f0 (List.Mem.head _)
      go_simp
    simp only [Act.put, List.setIfInBounds_toArray, List.set_cons_zero, List.set_cons_succ]
    refine wpAnyH_ready (rs := [1, 5]) (by kernel_rfl) (by simp) ?_
    refine AllReadyH.cons op1 (fun K hK => ?_) (AllReadyH.cons op5 (fun K hK => ?_) AllReadyH.nil)
    · rw [if_pos (by rfl)]
      go_simp
      refine (HWA.out _).mono ?_
      rintro e g6 ⟨rfl, hB⟩
      have x7 : Bx w [(w.heap.size + 1, b0, b1, b2, b3), (w.heap.size, a0, a1, a2, a3)] g6 := hHeld.past hB
      clear hB hHeld
      (try go_wp2_with fail)
      refine hK.out _ _ x7 (fun _ => ?_)
      clear hK K
      refine wpAnyH_ready (rs := [3, 5]) (by kernel_rfl) (by simp) ?_
      refine AllReadyH.cons op3 (fun K hK => ?_) (AllReadyH.cons op5 (fun K hK => ?_) AllReadyH.nil)
      · rw [if_pos (by rfl)]
        go_simp
        refine (HWB.out _).mono ?_
        rintro e g8 ⟨rfl, hB⟩
        have x9 : Bx w [(w.heap.size + 1, b0, b1, b2, b3), (w.heap.size, a0, a1, a2, a3)] g8 := x7.past hB
        clear hB x7
        (try go_wp2_with fail)
        refine hK.out _ _ x9 (fun _ => ?_)
        clear hK K
        refine wpAnyH_ready (rs := [4, 5]) (by kernel_rfl) (by simp) ?_
        refine AllReadyH.cons op4 (fun K hK => ?_) (AllReadyH.cons op5 (fun K hK => ?_) AllReadyH.nil)
        · rw [if_pos (by rfl)]
          go_simp
          refine (HDI.out _).mono ?_
          rintro e g10 ⟨rfl, hB⟩
          have x11 : Bx w [(w.heap.size + 1, b0, b1, b2, b3), (w.heap.size, a0, a1, a2, a3)] g10 := x9.past hB
          clear hB x9
          (try go_wp2_with fail)
          refine hK.out _ _ x11 (fun _ => ?_)
          clear hK K
          refine wpAnyH_ready (rs := [5]) (by kernel_rfl) (by simp) ?_
          refine AllReadyH.cons op5 (fun K hK => ?_) AllReadyH.nil
          rw [if_pos (by rfl)]
          go_simp
          have x13 : Bx w ((g10.heap.size, 0, 0, 0, 0) :: [(w.heap.size + 1, b0, b1, b2, b3), (w.heap.size, a0, a1, a2, a3)]) (g10.alloc (.cells #[.int .u64 0, .int .u64 0, .int .u64 0, .int .u64 0] 24)) := x11.alloc 0 0 0 0
          have lbb5_0 : w.heap.size + 1 < g10.heap.size := x11.lt _ (List.Mem.head _)
          have lbb5_1 : w.heap.size < g10.heap.size := x11.lt _ (List.Mem.tail _ (List.Mem.head _))
          refine hK.out _ _ (Bx.sub x13 (fun p hp => List.Mem.tail _ hp)) (fun _ => ?_)
          clear hK K x11
          generalize g10.alloc (.cells #[.int .u64 0, .int .u64 0, .int .u64 0, .int .u64 0] 24) = g12 at x13 ⊢
          generalize g10.heap.size = bb5 at x13 lbb5_0 lbb5_1 ⊢
          refine wpAnyH_ready (rs := [6]) (by kernel_rfl) (by simp) ?_
          refine AllReadyH.cons op6 (fun K hK => ?_) AllReadyH.nil
          rw [if_pos (by rfl)]
          obtain ⟨c0, c1, c2, c3, f0, f1, f2, f3⟩ := x13.f0 (List.Mem.head _)
          go_simp
          have x15 : Bx w ((bb5, q0, q1, q2, q3) :: [(w.heap.size + 1, b0, b1, b2, b3), (w.heap.size, a0, a1, a2, a3)]) ((((g12.setCell ⟨bb5, 0, none⟩ (.int .u64 q0)).setCell ⟨bb5, 1, none⟩ (.int .u64 q1)).setCell ⟨bb5, 2, none⟩ (.int .u64 q2)).setCell ⟨bb5, 3, none⟩ (.int .u64 q3)) := Bx.put x13 (by intro p hp; simp only [List.mem_cons, List.not_mem_nil, or_false] at hp; rcases hp with rfl | rfl <;> simp <;> omega) q0 q1 q2 q3
          refine hK.out _ _ (Bx.sub x15 (fun p hp => List.Mem.tail _ hp)) (fun _ => ?_)
          clear hK K c0 c1 c2 c3 f0 f1 f2 f3 x13
          generalize ((((g12.setCell ⟨bb5, 0, none⟩ (.int .u64 q0)).setCell ⟨bb5, 1, none⟩ (.int .u64 q1)).setCell ⟨bb5, 2, none⟩ (.int .u64 q2)).setCell ⟨bb5, 3, none⟩ (.int .u64 q3)) = g14 at x15 ⊢
          (try simp only [Act.put])
          refine wpAnyH_done (by kernel_rfl) ?_ _
          go_wp2
          go_meet
          case rel => exact ⟨bb5, rfl, lbb5_0, lbb5_1, x15⟩
        · rw [if_pos (by rfl)]
          go_simp
          have x17 : Bx w ((g8.heap.size, 0, 0, 0, 0) :: [(w.heap.size + 1, b0, b1, b2, b3), (w.heap.size, a0, a1, a2, a3)]) (g8.alloc (.cells #[.int .u64 0, .int .u64 0, .int .u64 0, .int .u64 0] 24)) := x9.alloc 0 0 0 0
          have lbb5_0 : w.heap.size + 1 < g8.heap.size := x9.lt _ (List.Mem.head _)
          have lbb5_1 : w.heap.size < g8.heap.size := x9.lt _ (List.Mem.tail _ (List.Mem.head _))
          refine hK.out _ _ (Bx.sub x17 (fun p hp => List.Mem.tail _ hp)) (fun _ => ?_)
          clear hK K x9
          generalize g8.alloc (.cells #[.int .u64 0, .int .u64 0, .int .u64 0, .int .u64 0] 24) = g16 at x17 ⊢
          generalize g8.heap.size = bb5 at x17 lbb5_0 lbb5_1 ⊢
          refine wpAnyH_ready (rs := [4]) (by kernel_rfl) (by simp) ?_
          refine AllReadyH.cons op4 (fun K hK => ?_) AllReadyH.nil
          rw [if_pos (by rfl)]
          go_simp
          refine (HDI.out _).mono ?_
          rintro e g18 ⟨rfl, hB⟩
          have x19 : Bx w [(bb5, 0, 0, 0, 0), (w.heap.size + 1, b0, b1, b2, b3), (w.heap.size, a0, a1, a2, a3)] g18 := x17.past hB
          clear hB x17
          (try go_wp2_with fail)
          refine hK.out _ _ (Bx.sub x19 (fun p hp => List.Mem.tail _ hp)) (fun _ => ?_)
          clear hK K
          refine wpAnyH_ready (rs := [6]) (by kernel_rfl) (by simp) ?_
          refine AllReadyH.cons op6 (fun K hK => ?_) AllReadyH.nil
          rw [if_pos (by rfl)]
          obtain ⟨c0, c1, c2, c3, f0, f1, f2, f3⟩ := x19.f0 (List.Mem.head _)
          go_simp
          have x21 : Bx w ((bb5, q0, q1, q2, q3) :: [(w.heap.size + 1, b0, b1, b2, b3), (w.heap.size, a0, a1, a2, a3)]) ((((g18.setCell ⟨bb5, 0, none⟩ (.int .u64 q0)).setCell ⟨bb5, 1, none⟩ (.int .u64 q1)).setCell ⟨bb5, 2, none⟩ (.int .u64 q2)).setCell ⟨bb5, 3, none⟩ (.int .u64 q3)) := Bx.put x19 (by intro p hp; simp only [List.mem_cons, List.not_mem_nil, or_false] at hp; rcases hp with rfl | rfl <;> simp <;> omega) q0 q1 q2 q3
          refine hK.out _ _ (Bx.sub x21 (fun p hp => List.Mem.tail _ hp)) (fun _ => ?_)
          clear hK K c0 c1 c2 c3 f0 f1 f2 f3 x19
          generalize ((((g18.setCell ⟨bb5, 0, none⟩ (.int .u64 q0)).setCell ⟨bb5, 1, none⟩ (.int .u64 q1)).setCell ⟨bb5, 2, none⟩ (.int .u64 q2)).setCell ⟨bb5, 3, none⟩ (.int .u64 q3)) = g20 at x21 ⊢
          (try simp only [Act.put])
          refine wpAnyH_done (by kernel_rfl) ?_ _
          go_wp2
          go_meet
          case rel => exact ⟨bb5, rfl, lbb5_0, lbb5_1, x21⟩
      · rw [if_pos (by rfl)]
        go_simp
        have x23 : Bx w ((g6.heap.size, 0, 0, 0, 0) :: [(w.heap.size + 1, b0, b1, b2, b3), (w.heap.size, a0, a1, a2, a3)]) (g6.alloc (.cells #[.int .u64 0, .int .u64 0, .int .u64 0, .int .u64 0] 24)) := x7.alloc 0 0 0 0
        have lbb5_0 : w.heap.size + 1 < g6.heap.size := x7.lt _ (List.Mem.head _)
        have lbb5_1 : w.heap.size < g6.heap.size := x7.lt _ (List.Mem.tail _ (List.Mem.head _))
        refine hK.out _ _ (Bx.sub x23 (fun p hp => List.Mem.tail _ hp)) (fun _ => ?_)
        clear hK K x7
        generalize g6.alloc (.cells #[.int .u64 0, .int .u64 0, .int .u64 0, .int .u64 0] 24) = g22 at x23 ⊢
        generalize g6.heap.size = bb5 at x23 lbb5_0 lbb5_1 ⊢
        refine wpAnyH_ready (rs := [3]) (by kernel_rfl) (by simp) ?_
        refine AllReadyH.cons op3 (fun K hK => ?_) AllReadyH.nil
        rw [if_pos (by rfl)]
        go_simp
        refine (HWB.out _).mono ?_
        rintro e g24 ⟨rfl, hB⟩
        have x25 : Bx w [(bb5, 0, 0, 0, 0), (w.heap.size + 1, b0, b1, b2, b3), (w.heap.size, a0, a1, a2, a3)] g24 := x23.past hB
        clear hB x23
        (try go_wp2_with fail)
        refine hK.out _ _ (Bx.sub x25 (fun p hp => List.Mem.tail _ hp)) (fun _ => ?_)
        clear hK K
        refine wpAnyH_ready (rs := [4]) (by kernel_rfl) (by simp) ?_
        refine AllReadyH.cons op4 (fun K hK => ?_) AllReadyH.nil
        rw [if_pos (by rfl)]
        go_simp
        refine (HDI.out _).mono ?_
        rintro e g26 ⟨rfl, hB⟩
        have x27 : Bx w [(bb5, 0, 0, 0, 0), (w.heap.size + 1, b0, b1, b2, b3), (w.heap.size, a0, a1, a2, a3)] g26 := x25.past hB
        clear hB x25
        (try go_wp2_with fail)
        refine hK.out _ _ (Bx.sub x27 (fun p hp => List.Mem.tail _ hp)) (fun _ => ?_)
        clear hK K
        refine wpAnyH_ready (rs := [6]) (by kernel_rfl) (by simp) ?_
        refine AllReadyH.cons op6 (fun K hK => ?_) AllReadyH.nil
        rw [if_pos (by rfl)]
        obtain ⟨c0, c1, c2, c3, f0, f1, f2, f3⟩ := x27.f0 (List.Mem.head _)
        go_simp
        have x29 : Bx w ((bb5, q0, q1, q2, q3) :: [(w.heap.size + 1, b0, b1, b2, b3), (w.heap.size, a0, a1, a2, a3)]) ((((g26.setCell ⟨bb5, 0, none⟩ (.int .u64 q0)).setCell ⟨bb5, 1, none⟩ (.int .u64 q1)).setCell ⟨bb5, 2, none⟩ (.int .u64 q2)).setCell ⟨bb5, 3, none⟩ (.int .u64 q3)) := Bx.put x27 (by intro p hp; simp only [List.mem_cons, List.not_mem_nil, or_false] at hp; rcases hp with rfl | rfl <;> simp <;> omega) q0 q1 q2 q3
        refine hK.out _ _ (Bx.sub x29 (fun p hp => List.Mem.tail _ hp)) (fun _ => ?_)
        clear hK K c0 c1 c2 c3 f0 f1 f2 f3 x27
        generalize ((((g26.setCell ⟨bb5, 0, none⟩ (.int .u64 q0)).setCell ⟨bb5, 1, none⟩ (.int .u64 q1)).setCell ⟨bb5, 2, none⟩ (.int .u64 q2)).setCell ⟨bb5, 3, none⟩ (.int .u64 q3)) = g28 at x29 ⊢
        (try simp only [Act.put])
        refine wpAnyH_done (by kernel_rfl) ?_ _
        go_wp2
        go_meet
        case rel => exact ⟨bb5, rfl, lbb5_0, lbb5_1, x29⟩
    · rw [if_pos (by rfl)]
      go_simp
      have x31 : Bx w ((g4.heap.size, 0, 0, 0, 0) :: [(w.heap.size + 1, b0, b1, b2, b3), (w.heap.size, a0, a1, a2, a3)]) (g4.alloc (.cells #[.int .u64 0, .int .u64 0, .int .u64 0, .int .u64 0] 24)) := hHeld.alloc 0 0 0 0
      have lbb5_0 : w.heap.size + 1 < g4.heap.size := hHeld.lt _ (List.Mem.head _)
      have lbb5_1 : w.heap.size < g4.heap.size := hHeld.lt _ (List.Mem.tail _ (List.Mem.head _))
      refine hK.out _ _ (Bx.sub x31 (fun p hp => List.Mem.tail _ hp)) (fun _ => ?_)
      clear hK K hHeld
      generalize g4.alloc (.cells #[.int .u64 0, .int .u64 0, .int .u64 0, .int .u64 0] 24) = g30 at x31 ⊢
      generalize g4.heap.size = bb5 at x31 lbb5_0 lbb5_1 ⊢
      refine wpAnyH_ready (rs := [1]) (by kernel_rfl) (by simp) ?_
      refine AllReadyH.cons op1 (fun K hK => ?_) AllReadyH.nil
      rw [if_pos (by rfl)]
      go_simp
      refine (HWA.out _).mono ?_
      rintro e g32 ⟨rfl, hB⟩
      have x33 : Bx w [(bb5, 0, 0, 0, 0), (w.heap.size + 1, b0, b1, b2, b3), (w.heap.size, a0, a1, a2, a3)] g32 := x31.past hB
      clear hB x31
      (try go_wp2_with fail)
      refine hK.out _ _ (Bx.sub x33 (fun p hp => List.Mem.tail _ hp)) (fun _ => ?_)
      clear hK K
      refine wpAnyH_ready (rs := [3]) (by kernel_rfl) (by simp) ?_
      refine AllReadyH.cons op3 (fun K hK => ?_) AllReadyH.nil
      rw [if_pos (by rfl)]
      go_simp
      refine (HWB.out _).mono ?_
      rintro e g34 ⟨rfl, hB⟩
      have x35 : Bx w [(bb5, 0, 0, 0, 0), (w.heap.size + 1, b0, b1, b2, b3), (w.heap.size, a0, a1, a2, a3)] g34 := x33.past hB
      clear hB x33
      (try go_wp2_with fail)
      refine hK.out _ _ (Bx.sub x35 (fun p hp => List.Mem.tail _ hp)) (fun _ => ?_)
      clear hK K
      refine wpAnyH_ready (rs := [4]) (by kernel_rfl) (by simp) ?_
      refine AllReadyH.cons op4 (fun K hK => ?_) AllReadyH.nil
      rw [if_pos (by rfl)]
      go_simp
      refine (HDI.out _).mono ?_
      rintro e g36 ⟨rfl, hB⟩
      have x37 : Bx w [(bb5, 0, 0, 0, 0), (w.heap.size + 1, b0, b1, b2, b3), (w.heap.size, a0, a1, a2, a3)] g36 := x35.past hB
      clear hB x35
      (try go_wp2_with fail)
      refine hK.out _ _ (Bx.sub x37 (fun p hp => List.Mem.tail _ hp)) (fun _ => ?_)
      clear hK K
      refine wpAnyH_ready (rs := [6]) (by kernel_rfl) (by simp) ?_
      refine AllReadyH.cons op6 (fun K hK => ?_) AllReadyH.nil
      rw [if_pos (by rfl)]
      obtain ⟨c0, c1, c2, c3, f0, f1, f2, f3⟩ := x37.f0 (List.Mem.head _)
      go_simp
      have x39 : Bx w ((bb5, q0, q1, q2, q3) :: [(w.heap.size + 1, b0, b1, b2, b3), (w.heap.size, a0, a1, a2, a3)]) ((((g36.setCell ⟨bb5, 0, none⟩ (.int .u64 q0)).setCell ⟨bb5, 1, none⟩ (.int .u64 q1)).setCell ⟨bb5, 2, none⟩ (.int .u64 q2)).setCell ⟨bb5, 3, none⟩ (.int .u64 q3)) := Bx.put x37 (by intro p hp; simp only [List.mem_cons, List.not_mem_nil, or_false] at hp; rcases hp with rfl | rfl <;> simp <;> omega) q0 q1 q2 q3
      refine hK.out _ _ (Bx.sub x39 (fun p hp => List.Mem.tail _ hp)) (fun _ => ?_)
      clear hK K c0 c1 c2 c3 f0 f1 f2 f3 x37
      generalize ((((g36.setCell ⟨bb5, 0, none⟩ (.int .u64 q0)).setCell ⟨bb5, 1, none⟩ (.int .u64 q1)).setCell ⟨bb5, 2, none⟩ (.int .u64 q2)).setCell ⟨bb5, 3, none⟩ (.int .u64 q3)) = g38 at x39 ⊢
      (try simp only [Act.put])
      refine wpAnyH_done (by kernel_rfl) ?_ _
      go_wp2
      go_meet
      case rel => exact ⟨bb5, rfl, lbb5_0, lbb5_1, x39⟩
  case rest =>
    obtain ⟨bk3, rfl, lbk3_0, lbk3_1, hX⟩ := hcut
    have X40 : Hid (Bx w [(bk3, q0, q1, q2, q3), (w.heap.size + 1, b0, b1, b2, b3), (w.heap.size, a0, a1, a2, a3)] wc) := hX
    generalize wc = g41 at hX X40 ⊢
    clear hX X1
    go_upto_region 2 with fail
    go_cut [6] (fun sx wx => ∃ bk42 : Nat, sx = .pointer (some ⟨bk42, 0, none⟩) ∧ bk3 < bk42 ∧ w.heap.size + 1 < bk42 ∧ w.heap.size < bk42 ∧ Bx w [(bk42, r0, r1, r2, r3), (bk3, q0, q1, q2, q3), (w.heap.size + 1, b0, b1, b2, b3), (w.heap.size, a0, a1, a2, a3)] wx)
    case first =>
      refine wp_region_held_drew (S := fun w' => Bx w [(bk3, q0, q1, q2, q3), (w.heap.size + 1, b0, b1, b2, b3), (w.heap.size, a0, a1, a2, a3)] w') (by kernel_rfl) X40.out.drew (fun hHeld => ?_)
      generalize g41.drew = g43 at hHeld ⊢
      refine wpAnyH_take (i := 0) (v := .agg #[.int .u64 a0, .int .u64 a1, .int .u64 a2, .int .u64 a3]) op0 (by kernel_rfl) (by kernel_rfl) (by kernel_rfl) (fun _ _ _ h => h) (Or.inl ⟨by rfl, fun W hS => ?_⟩) hHeld ?_
      · obtain ⟨c0, c1, c2, c3, _⟩ := hS.f0 (List.Mem.tail _ (List.Mem.tail _ (List.Mem.head _)))
        go_simp
      simp only [Act.put, List.setIfInBounds_toArray, List.set_cons_zero, List.set_cons_succ]
      refine wpAnyH_take (i := 2) (v := .agg #[.int .u64 b0, .int .u64 b1, .int .u64 b2, .int .u64 b3]) op2 (by kernel_rfl) (by kernel_rfl) (by kernel_rfl) (fun _ _ _ h => h) (Or.inl ⟨by rfl, fun W hS => ?_⟩) hHeld ?_
      · obtain ⟨c0, c1, c2, c3, _⟩ := hS.f0 (List.Mem.tail _ (List.Mem.head _))
        go_simp
      simp only [Act.put, List.setIfInBounds_toArray, List.set_cons_zero, List.set_cons_succ]
      refine wpAnyH_ready (rs := [1, 5]) (by kernel_rfl) (by simp) ?_
      refine AllReadyH.cons op1 (fun K hK => ?_) (AllReadyH.cons op5 (fun K hK => ?_) AllReadyH.nil)
      · rw [if_pos (by rfl)]
        go_simp
        refine (HWA.out _).mono ?_
        rintro e g45 ⟨rfl, hB⟩
        have x46 : Bx w [(bk3, q0, q1, q2, q3), (w.heap.size + 1, b0, b1, b2, b3), (w.heap.size, a0, a1, a2, a3)] g45 := hHeld.past hB
        clear hB hHeld
        (try go_wp2_with fail)
        refine hK.out _ _ x46 (fun _ => ?_)
        clear hK K
        refine wpAnyH_ready (rs := [3, 5]) (by kernel_rfl) (by simp) ?_
        refine AllReadyH.cons op3 (fun K hK => ?_) (AllReadyH.cons op5 (fun K hK => ?_) AllReadyH.nil)
        · rw [if_pos (by rfl)]
          go_simp
          refine (HWB.out _).mono ?_
          rintro e g47 ⟨rfl, hB⟩
          have x48 : Bx w [(bk3, q0, q1, q2, q3), (w.heap.size + 1, b0, b1, b2, b3), (w.heap.size, a0, a1, a2, a3)] g47 := x46.past hB
          clear hB x46
          (try go_wp2_with fail)
          refine hK.out _ _ x48 (fun _ => ?_)
          clear hK K
          refine wpAnyH_ready (rs := [4, 5]) (by kernel_rfl) (by simp) ?_
          refine AllReadyH.cons op4 (fun K hK => ?_) (AllReadyH.cons op5 (fun K hK => ?_) AllReadyH.nil)
          · rw [if_pos (by rfl)]
            go_simp
            refine (HMO.out _).mono ?_
            rintro e g49 ⟨rfl, hB⟩
            have x50 : Bx w [(bk3, q0, q1, q2, q3), (w.heap.size + 1, b0, b1, b2, b3), (w.heap.size, a0, a1, a2, a3)] g49 := x48.past hB
            clear hB x48
            (try go_wp2_with fail)
            refine hK.out _ _ x50 (fun _ => ?_)
            clear hK K
            refine wpAnyH_ready (rs := [5]) (by kernel_rfl) (by simp) ?_
            refine AllReadyH.cons op5 (fun K hK => ?_) AllReadyH.nil
            rw [if_pos (by rfl)]
            go_simp
            have x52 : Bx w ((g49.heap.size, 0, 0, 0, 0) :: [(bk3, q0, q1, q2, q3), (w.heap.size + 1, b0, b1, b2, b3), (w.heap.size, a0, a1, a2, a3)]) (g49.alloc (.cells #[.int .u64 0, .int .u64 0, .int .u64 0, .int .u64 0] 24)) := x50.alloc 0 0 0 0
            have lbb44_0 : bk3 < g49.heap.size := x50.lt _ (List.Mem.head _)
            have lbb44_1 : w.heap.size + 1 < g49.heap.size := x50.lt _ (List.Mem.tail _ (List.Mem.head _))
            have lbb44_2 : w.heap.size < g49.heap.size := x50.lt _ (List.Mem.tail _ (List.Mem.tail _ (List.Mem.head _)))
            refine hK.out _ _ (Bx.sub x52 (fun p hp => List.Mem.tail _ hp)) (fun _ => ?_)
            clear hK K x50
            generalize g49.alloc (.cells #[.int .u64 0, .int .u64 0, .int .u64 0, .int .u64 0] 24) = g51 at x52 ⊢
            generalize g49.heap.size = bb44 at x52 lbb44_0 lbb44_1 lbb44_2 ⊢
            refine wpAnyH_ready (rs := [6]) (by kernel_rfl) (by simp) ?_
            refine AllReadyH.cons op6 (fun K hK => ?_) AllReadyH.nil
            rw [if_pos (by rfl)]
            obtain ⟨c0, c1, c2, c3, f0, f1, f2, f3⟩ := x52.f0 (List.Mem.head _)
            go_simp
            have x54 : Bx w ((bb44, r0, r1, r2, r3) :: [(bk3, q0, q1, q2, q3), (w.heap.size + 1, b0, b1, b2, b3), (w.heap.size, a0, a1, a2, a3)]) ((((g51.setCell ⟨bb44, 0, none⟩ (.int .u64 r0)).setCell ⟨bb44, 1, none⟩ (.int .u64 r1)).setCell ⟨bb44, 2, none⟩ (.int .u64 r2)).setCell ⟨bb44, 3, none⟩ (.int .u64 r3)) := Bx.put x52 (by intro p hp; simp only [List.mem_cons, List.not_mem_nil, or_false] at hp; rcases hp with rfl | rfl | rfl <;> simp <;> omega) r0 r1 r2 r3
            refine hK.out _ _ (Bx.sub x54 (fun p hp => List.Mem.tail _ hp)) (fun _ => ?_)
            clear hK K c0 c1 c2 c3 f0 f1 f2 f3 x52
            generalize ((((g51.setCell ⟨bb44, 0, none⟩ (.int .u64 r0)).setCell ⟨bb44, 1, none⟩ (.int .u64 r1)).setCell ⟨bb44, 2, none⟩ (.int .u64 r2)).setCell ⟨bb44, 3, none⟩ (.int .u64 r3)) = g53 at x54 ⊢
            (try simp only [Act.put])
            refine wpAnyH_done (by kernel_rfl) ?_ _
            go_wp2
            go_meet
            case rel => exact ⟨bb44, rfl, lbb44_0, lbb44_1, lbb44_2, x54⟩
          · rw [if_pos (by rfl)]
            go_simp
            have x56 : Bx w ((g47.heap.size, 0, 0, 0, 0) :: [(bk3, q0, q1, q2, q3), (w.heap.size + 1, b0, b1, b2, b3), (w.heap.size, a0, a1, a2, a3)]) (g47.alloc (.cells #[.int .u64 0, .int .u64 0, .int .u64 0, .int .u64 0] 24)) := x48.alloc 0 0 0 0
            have lbb44_0 : bk3 < g47.heap.size := x48.lt _ (List.Mem.head _)
            have lbb44_1 : w.heap.size + 1 < g47.heap.size := x48.lt _ (List.Mem.tail _ (List.Mem.head _))
            have lbb44_2 : w.heap.size < g47.heap.size := x48.lt _ (List.Mem.tail _ (List.Mem.tail _ (List.Mem.head _)))
            refine hK.out _ _ (Bx.sub x56 (fun p hp => List.Mem.tail _ hp)) (fun _ => ?_)
            clear hK K x48
            generalize g47.alloc (.cells #[.int .u64 0, .int .u64 0, .int .u64 0, .int .u64 0] 24) = g55 at x56 ⊢
            generalize g47.heap.size = bb44 at x56 lbb44_0 lbb44_1 lbb44_2 ⊢
            refine wpAnyH_ready (rs := [4]) (by kernel_rfl) (by simp) ?_
            refine AllReadyH.cons op4 (fun K hK => ?_) AllReadyH.nil
            rw [if_pos (by rfl)]
            go_simp
            refine (HMO.out _).mono ?_
            rintro e g57 ⟨rfl, hB⟩
            have x58 : Bx w [(bb44, 0, 0, 0, 0), (bk3, q0, q1, q2, q3), (w.heap.size + 1, b0, b1, b2, b3), (w.heap.size, a0, a1, a2, a3)] g57 := x56.past hB
            clear hB x56
            (try go_wp2_with fail)
            refine hK.out _ _ (Bx.sub x58 (fun p hp => List.Mem.tail _ hp)) (fun _ => ?_)
            clear hK K
            refine wpAnyH_ready (rs := [6]) (by kernel_rfl) (by simp) ?_
            refine AllReadyH.cons op6 (fun K hK => ?_) AllReadyH.nil
            rw [if_pos (by rfl)]
            obtain ⟨c0, c1, c2, c3, f0, f1, f2, f3⟩ := x58.f0 (List.Mem.head _)
            go_simp
            have x60 : Bx w ((bb44, r0, r1, r2, r3) :: [(bk3, q0, q1, q2, q3), (w.heap.size + 1, b0, b1, b2, b3), (w.heap.size, a0, a1, a2, a3)]) ((((g57.setCell ⟨bb44, 0, none⟩ (.int .u64 r0)).setCell ⟨bb44, 1, none⟩ (.int .u64 r1)).setCell ⟨bb44, 2, none⟩ (.int .u64 r2)).setCell ⟨bb44, 3, none⟩ (.int .u64 r3)) := Bx.put x58 (by intro p hp; simp only [List.mem_cons, List.not_mem_nil, or_false] at hp; rcases hp with rfl | rfl | rfl <;> simp <;> omega) r0 r1 r2 r3
            refine hK.out _ _ (Bx.sub x60 (fun p hp => List.Mem.tail _ hp)) (fun _ => ?_)
            clear hK K c0 c1 c2 c3 f0 f1 f2 f3 x58
            generalize ((((g57.setCell ⟨bb44, 0, none⟩ (.int .u64 r0)).setCell ⟨bb44, 1, none⟩ (.int .u64 r1)).setCell ⟨bb44, 2, none⟩ (.int .u64 r2)).setCell ⟨bb44, 3, none⟩ (.int .u64 r3)) = g59 at x60 ⊢
            (try simp only [Act.put])
            refine wpAnyH_done (by kernel_rfl) ?_ _
            go_wp2
            go_meet
            case rel => exact ⟨bb44, rfl, lbb44_0, lbb44_1, lbb44_2, x60⟩
        · rw [if_pos (by rfl)]
          go_simp
          have x62 : Bx w ((g45.heap.size, 0, 0, 0, 0) :: [(bk3, q0, q1, q2, q3), (w.heap.size + 1, b0, b1, b2, b3), (w.heap.size, a0, a1, a2, a3)]) (g45.alloc (.cells #[.int .u64 0, .int .u64 0, .int .u64 0, .int .u64 0] 24)) := x46.alloc 0 0 0 0
          have lbb44_0 : bk3 < g45.heap.size := x46.lt _ (List.Mem.head _)
          have lbb44_1 : w.heap.size + 1 < g45.heap.size := x46.lt _ (List.Mem.tail _ (List.Mem.head _))
          have lbb44_2 : w.heap.size < g45.heap.size := x46.lt _ (List.Mem.tail _ (List.Mem.tail _ (List.Mem.head _)))
          refine hK.out _ _ (Bx.sub x62 (fun p hp => List.Mem.tail _ hp)) (fun _ => ?_)
          clear hK K x46
          generalize g45.alloc (.cells #[.int .u64 0, .int .u64 0, .int .u64 0, .int .u64 0] 24) = g61 at x62 ⊢
          generalize g45.heap.size = bb44 at x62 lbb44_0 lbb44_1 lbb44_2 ⊢
          refine wpAnyH_ready (rs := [3]) (by kernel_rfl) (by simp) ?_
          refine AllReadyH.cons op3 (fun K hK => ?_) AllReadyH.nil
          rw [if_pos (by rfl)]
          go_simp
          refine (HWB.out _).mono ?_
          rintro e g63 ⟨rfl, hB⟩
          have x64 : Bx w [(bb44, 0, 0, 0, 0), (bk3, q0, q1, q2, q3), (w.heap.size + 1, b0, b1, b2, b3), (w.heap.size, a0, a1, a2, a3)] g63 := x62.past hB
          clear hB x62
          (try go_wp2_with fail)
          refine hK.out _ _ (Bx.sub x64 (fun p hp => List.Mem.tail _ hp)) (fun _ => ?_)
          clear hK K
          refine wpAnyH_ready (rs := [4]) (by kernel_rfl) (by simp) ?_
          refine AllReadyH.cons op4 (fun K hK => ?_) AllReadyH.nil
          rw [if_pos (by rfl)]
          go_simp
          refine (HMO.out _).mono ?_
          rintro e g65 ⟨rfl, hB⟩
          have x66 : Bx w [(bb44, 0, 0, 0, 0), (bk3, q0, q1, q2, q3), (w.heap.size + 1, b0, b1, b2, b3), (w.heap.size, a0, a1, a2, a3)] g65 := x64.past hB
          clear hB x64
          (try go_wp2_with fail)
          refine hK.out _ _ (Bx.sub x66 (fun p hp => List.Mem.tail _ hp)) (fun _ => ?_)
          clear hK K
          refine wpAnyH_ready (rs := [6]) (by kernel_rfl) (by simp) ?_
          refine AllReadyH.cons op6 (fun K hK => ?_) AllReadyH.nil
          rw [if_pos (by rfl)]
          obtain ⟨c0, c1, c2, c3, f0, f1, f2, f3⟩ := x66.f0 (List.Mem.head _)
          go_simp
          have x68 : Bx w ((bb44, r0, r1, r2, r3) :: [(bk3, q0, q1, q2, q3), (w.heap.size + 1, b0, b1, b2, b3), (w.heap.size, a0, a1, a2, a3)]) ((((g65.setCell ⟨bb44, 0, none⟩ (.int .u64 r0)).setCell ⟨bb44, 1, none⟩ (.int .u64 r1)).setCell ⟨bb44, 2, none⟩ (.int .u64 r2)).setCell ⟨bb44, 3, none⟩ (.int .u64 r3)) := Bx.put x66 (by intro p hp; simp only [List.mem_cons, List.not_mem_nil, or_false] at hp; rcases hp with rfl | rfl | rfl <;> simp <;> omega) r0 r1 r2 r3
          refine hK.out _ _ (Bx.sub x68 (fun p hp => List.Mem.tail _ hp)) (fun _ => ?_)
          clear hK K c0 c1 c2 c3 f0 f1 f2 f3 x66
          generalize ((((g65.setCell ⟨bb44, 0, none⟩ (.int .u64 r0)).setCell ⟨bb44, 1, none⟩ (.int .u64 r1)).setCell ⟨bb44, 2, none⟩ (.int .u64 r2)).setCell ⟨bb44, 3, none⟩ (.int .u64 r3)) = g67 at x68 ⊢
          (try simp only [Act.put])
          refine wpAnyH_done (by kernel_rfl) ?_ _
          go_wp2
          go_meet
          case rel => exact ⟨bb44, rfl, lbb44_0, lbb44_1, lbb44_2, x68⟩
      · rw [if_pos (by rfl)]
        go_simp
        have x70 : Bx w ((g43.heap.size, 0, 0, 0, 0) :: [(bk3, q0, q1, q2, q3), (w.heap.size + 1, b0, b1, b2, b3), (w.heap.size, a0, a1, a2, a3)]) (g43.alloc (.cells #[.int .u64 0, .int .u64 0, .int .u64 0, .int .u64 0] 24)) := hHeld.alloc 0 0 0 0
        have lbb44_0 : bk3 < g43.heap.size := hHeld.lt _ (List.Mem.head _)
        have lbb44_1 : w.heap.size + 1 < g43.heap.size := hHeld.lt _ (List.Mem.tail _ (List.Mem.head _))
        have lbb44_2 : w.heap.size < g43.heap.size := hHeld.lt _ (List.Mem.tail _ (List.Mem.tail _ (List.Mem.head _)))
        refine hK.out _ _ (Bx.sub x70 (fun p hp => List.Mem.tail _ hp)) (fun _ => ?_)
        clear hK K hHeld
        generalize g43.alloc (.cells #[.int .u64 0, .int .u64 0, .int .u64 0, .int .u64 0] 24) = g69 at x70 ⊢
        generalize g43.heap.size = bb44 at x70 lbb44_0 lbb44_1 lbb44_2 ⊢
        refine wpAnyH_ready (rs := [1]) (by kernel_rfl) (by simp) ?_
        refine AllReadyH.cons op1 (fun K hK => ?_) AllReadyH.nil
        rw [if_pos (by rfl)]
        go_simp
        refine (HWA.out _).mono ?_
        rintro e g71 ⟨rfl, hB⟩
        have x72 : Bx w [(bb44, 0, 0, 0, 0), (bk3, q0, q1, q2, q3), (w.heap.size + 1, b0, b1, b2, b3), (w.heap.size, a0, a1, a2, a3)] g71 := x70.past hB
        clear hB x70
        (try go_wp2_with fail)
        refine hK.out _ _ (Bx.sub x72 (fun p hp => List.Mem.tail _ hp)) (fun _ => ?_)
        clear hK K
        refine wpAnyH_ready (rs := [3]) (by kernel_rfl) (by simp) ?_
        refine AllReadyH.cons op3 (fun K hK => ?_) AllReadyH.nil
        rw [if_pos (by rfl)]
        go_simp
        refine (HWB.out _).mono ?_
        rintro e g73 ⟨rfl, hB⟩
        have x74 : Bx w [(bb44, 0, 0, 0, 0), (bk3, q0, q1, q2, q3), (w.heap.size + 1, b0, b1, b2, b3), (w.heap.size, a0, a1, a2, a3)] g73 := x72.past hB
        clear hB x72
        (try go_wp2_with fail)
        refine hK.out _ _ (Bx.sub x74 (fun p hp => List.Mem.tail _ hp)) (fun _ => ?_)
        clear hK K
        refine wpAnyH_ready (rs := [4]) (by kernel_rfl) (by simp) ?_
        refine AllReadyH.cons op4 (fun K hK => ?_) AllReadyH.nil
        rw [if_pos (by rfl)]
        go_simp
        refine (HMO.out _).mono ?_
        rintro e g75 ⟨rfl, hB⟩
        have x76 : Bx w [(bb44, 0, 0, 0, 0), (bk3, q0, q1, q2, q3), (w.heap.size + 1, b0, b1, b2, b3), (w.heap.size, a0, a1, a2, a3)] g75 := x74.past hB
        clear hB x74
        (try go_wp2_with fail)
        refine hK.out _ _ (Bx.sub x76 (fun p hp => List.Mem.tail _ hp)) (fun _ => ?_)
        clear hK K
        refine wpAnyH_ready (rs := [6]) (by kernel_rfl) (by simp) ?_
        refine AllReadyH.cons op6 (fun K hK => ?_) AllReadyH.nil
        rw [if_pos (by rfl)]
        obtain ⟨c0, c1, c2, c3, f0, f1, f2, f3⟩ := x76.f0 (List.Mem.head _)
        go_simp
        have x78 : Bx w ((bb44, r0, r1, r2, r3) :: [(bk3, q0, q1, q2, q3), (w.heap.size + 1, b0, b1, b2, b3), (w.heap.size, a0, a1, a2, a3)]) ((((g75.setCell ⟨bb44, 0, none⟩ (.int .u64 r0)).setCell ⟨bb44, 1, none⟩ (.int .u64 r1)).setCell ⟨bb44, 2, none⟩ (.int .u64 r2)).setCell ⟨bb44, 3, none⟩ (.int .u64 r3)) := Bx.put x76 (by intro p hp; simp only [List.mem_cons, List.not_mem_nil, or_false] at hp; rcases hp with rfl | rfl | rfl <;> simp <;> omega) r0 r1 r2 r3
        refine hK.out _ _ (Bx.sub x78 (fun p hp => List.Mem.tail _ hp)) (fun _ => ?_)
        clear hK K c0 c1 c2 c3 f0 f1 f2 f3 x76
        generalize ((((g75.setCell ⟨bb44, 0, none⟩ (.int .u64 r0)).setCell ⟨bb44, 1, none⟩ (.int .u64 r1)).setCell ⟨bb44, 2, none⟩ (.int .u64 r2)).setCell ⟨bb44, 3, none⟩ (.int .u64 r3)) = g77 at x78 ⊢
        (try simp only [Act.put])
        refine wpAnyH_done (by kernel_rfl) ?_ _
        go_wp2
        go_meet
        case rel => exact ⟨bb44, rfl, lbb44_0, lbb44_1, lbb44_2, x78⟩
    case rest =>
      obtain ⟨bk42, rfl, lbk42_0, lbk42_1, lbk42_2, hX⟩ := hcut
      have X79 : Hid (Bx w [(bk42, r0, r1, r2, r3), (bk3, q0, q1, q2, q3), (w.heap.size + 1, b0, b1, b2, b3), (w.heap.size, a0, a1, a2, a3)] wc) := hX
      generalize wc = g80 at hX X79 ⊢
      clear hX X40
      go_upto_region 3 with fail
      refine wp_region_held_drew (S := fun w' => Bx w [(bk42, r0, r1, r2, r3), (bk3, q0, q1, q2, q3), (w.heap.size + 1, b0, b1, b2, b3), (w.heap.size, a0, a1, a2, a3)] w') (by kernel_rfl) X79.out.drew (fun hHeld => ?_)
      generalize g80.drew = g81 at hHeld ⊢
      clear X79
      refine wpAnyH_take (i := 0) (v := .agg #[.int .u64 a0, .int .u64 a1, .int .u64 a2, .int .u64 a3]) op0 (by kernel_rfl) (by kernel_rfl) (by kernel_rfl) (fun _ _ _ h => h) (Or.inl ⟨by rfl, fun W hS => ?_⟩) hHeld ?_
      · obtain ⟨c0, c1, c2, c3, _⟩ := hS.f0 (List.Mem.tail _ (List.Mem.tail _ (List.Mem.tail _ (List.Mem.head _))))
        go_simp
      simp only [Act.put, List.setIfInBounds_toArray, List.set_cons_zero, List.set_cons_succ]
      refine wpAnyH_take (i := 2) (v := .agg #[.int .u64 b0, .int .u64 b1, .int .u64 b2, .int .u64 b3]) op2 (by kernel_rfl) (by kernel_rfl) (by kernel_rfl) (fun _ _ _ h => h) (Or.inl ⟨by rfl, fun W hS => ?_⟩) hHeld ?_
      · obtain ⟨c0, c1, c2, c3, _⟩ := hS.f0 (List.Mem.tail _ (List.Mem.tail _ (List.Mem.head _)))
        go_simp
      simp only [Act.put, List.setIfInBounds_toArray, List.set_cons_zero, List.set_cons_succ]
      refine wpAnyH_ready (rs := [1]) (by kernel_rfl) (by simp) ?_
      refine AllReadyH.cons op1 (fun K hK => ?_) AllReadyH.nil
      rw [if_pos (by rfl)]
      go_simp
      refine (HSA.out _).mono ?_
      rintro e g82 ⟨rfl, hB⟩
      have x83 : Bx w [(bk42, r0, r1, r2, r3), (bk3, q0, q1, q2, q3), (w.heap.size + 1, b0, b1, b2, b3), (w.heap.size, a0, a1, a2, a3)] g82 := hHeld.past hB
      clear hB hHeld
      (try go_wp2_with fail)
      refine hK.out _ _ x83 (fun _ => ?_)
      clear hK K
      refine wpAnyH_ready (rs := [3]) (by kernel_rfl) (by simp) ?_
      refine AllReadyH.cons op3 (fun K hK => ?_) AllReadyH.nil
      rw [if_pos (by rfl)]
      go_simp
      refine (HSB.out _).mono ?_
      rintro e g84 ⟨rfl, hB⟩
      have x85 : Bx w [(bk42, r0, r1, r2, r3), (bk3, q0, q1, q2, q3), (w.heap.size + 1, b0, b1, b2, b3), (w.heap.size, a0, a1, a2, a3)] g84 := x83.past hB
      clear hB x83
      (try go_wp2_with fail)
      refine hK.out _ _ x85 (fun _ => ?_)
      clear hK K
      refine wpAnyH_take (i := 4) (v := .bool false) op4 (by kernel_rfl) (by kernel_rfl) (by kernel_rfl) (fun _ _ _ h => h) (Or.inl ⟨by rfl, fun W hS => ?_⟩) x85 ?_
      · go_simp
      simp only [Act.put, List.setIfInBounds_toArray, List.set_cons_zero, List.set_cons_succ]
      refine wpAnyH_done (by kernel_rfl) ?_ _
      have X86 : Hid (Bx w [(bk42, r0, r1, r2, r3), (bk3, q0, q1, q2, q3), (w.heap.size + 1, b0, b1, b2, b3), (w.heap.size, a0, a1, a2, a3)] g84) := x85
      clear x85
      go_upto_region 5 with fail
      obtain ⟨k87_3_0, k87_3_1, k87_3_2, k87_3_3, k87_3_4, k87_3_5, k87_3_6, k87_3_7⟩ := X86.out.f0 (List.Mem.tail _ (List.Mem.tail _ (List.Mem.tail _ (List.Mem.head _))))
      go_upto_region 7 with (first | (go_at_call 41; refine (HSA.out _).mono ?_; rintro e g89 ⟨rfl, hB⟩; (have X88 : Hid (Bx w [(bk42, r0, r1, r2, r3), (bk3, q0, q1, q2, q3), (w.heap.size + 1, b0, b1, b2, b3), (w.heap.size, a0, a1, a2, a3)] g89) := X86.out.past hB); clear hB X86 k87_3_0 k87_3_1 k87_3_2 k87_3_3 k87_3_4 k87_3_5 k87_3_6 k87_3_7; obtain ⟨k90_3_0, k90_3_1, k90_3_2, k90_3_3, k90_3_4, k90_3_5, k90_3_6, k90_3_7⟩ := X88.out.f0 (List.Mem.tail _ (List.Mem.tail _ (List.Mem.tail _ (List.Mem.head _))))))
      clear k90_3_0 k90_3_1 k90_3_2 k90_3_3 k90_3_4 k90_3_5 k90_3_6 k90_3_7
      refine wp_region_held_drew (S := fun w' => Bx w [(bk42, r0, r1, r2, r3), (bk3, q0, q1, q2, q3), (w.heap.size + 1, b0, b1, b2, b3), (w.heap.size, a0, a1, a2, a3)] w') (by kernel_rfl) X88.out.drew (fun hHeld => ?_)
      generalize g89.drew = g91 at hHeld ⊢
      clear X88
      refine wpAnyH_take (i := 0) (v := .agg #[.int .u64 a0, .int .u64 a1, .int .u64 a2, .int .u64 a3]) op0 (by kernel_rfl) (by kernel_rfl) (by kernel_rfl) (fun _ _ _ h => h) (Or.inl ⟨by rfl, fun W hS => ?_⟩) hHeld ?_
      · obtain ⟨c0, c1, c2, c3, _⟩ := hS.f0 (List.Mem.tail _ (List.Mem.tail _ (List.Mem.tail _ (List.Mem.head _))))
        go_simp
      simp only [Act.put, List.setIfInBounds_toArray, List.set_cons_zero, List.set_cons_succ]
      refine wpAnyH_take (i := 1) (v := .agg #[.int .u64 b0, .int .u64 b1, .int .u64 b2, .int .u64 b3]) op1 (by kernel_rfl) (by kernel_rfl) (by kernel_rfl) (fun _ _ _ h => h) (Or.inl ⟨by rfl, fun W hS => ?_⟩) hHeld ?_
      · obtain ⟨c0, c1, c2, c3, _⟩ := hS.f0 (List.Mem.tail _ (List.Mem.tail _ (List.Mem.head _)))
        go_simp
      simp only [Act.put, List.setIfInBounds_toArray, List.set_cons_zero, List.set_cons_succ]
      refine wpAnyH_take (i := 3) (v := .agg #[.int .u64 q0, .int .u64 q1, .int .u64 q2, .int .u64 q3]) op3 (by kernel_rfl) (by kernel_rfl) (by kernel_rfl) (fun _ _ _ h => h) (Or.inl ⟨by rfl, fun W hS => ?_⟩) hHeld ?_
      · obtain ⟨c0, c1, c2, c3, _⟩ := hS.f0 (List.Mem.tail _ (List.Mem.head _))
        go_simp
      simp only [Act.put, List.setIfInBounds_toArray, List.set_cons_zero, List.set_cons_succ]
      refine wpAnyH_ready (rs := [2]) (by kernel_rfl) (by simp) ?_
      refine AllReadyH.cons op2 (fun K hK => ?_) AllReadyH.nil
      rw [if_pos (by rfl)]
      go_simp
      refine (HSD.out _).mono ?_
      rintro e g92 ⟨rfl, hB⟩
      have x93 : Bx w [(bk42, r0, r1, r2, r3), (bk3, q0, q1, q2, q3), (w.heap.size + 1, b0, b1, b2, b3), (w.heap.size, a0, a1, a2, a3)] g92 := hHeld.past hB
      clear hB hHeld
      (try go_wp2_with fail)
      refine hK.out _ _ x93 (fun _ => ?_)
      clear hK K
      refine wpAnyH_take (i := 4) (v := .bool false) op4 (by kernel_rfl) (by kernel_rfl) (by kernel_rfl) (fun _ _ _ h => h) (Or.inl ⟨by rfl, fun W hS => ?_⟩) x93 ?_
      · go_simp
      simp only [Act.put, List.setIfInBounds_toArray, List.set_cons_zero, List.set_cons_succ]
      refine wpAnyH_take (i := 5) (v := .bool false) op5 (by kernel_rfl) (by kernel_rfl) (by kernel_rfl) (fun _ _ _ h => h) (Or.inl ⟨by rfl, fun W hS => ?_⟩) x93 ?_
      · go_simp
      simp only [Act.put, List.setIfInBounds_toArray, List.set_cons_zero, List.set_cons_succ]
      refine wpAnyH_take (i := 6) (v := .agg #[.int .u64 a0, .int .u64 a1, .int .u64 a2, .int .u64 a3]) op6 (by kernel_rfl) (by kernel_rfl) (by kernel_rfl) (fun _ _ _ h => h) (Or.inl ⟨by rfl, fun W hS => ?_⟩) x93 ?_
      · obtain ⟨c0, c1, c2, c3, _⟩ := hS.f0 (List.Mem.tail _ (List.Mem.tail _ (List.Mem.tail _ (List.Mem.head _))))
        go_simp
      simp only [Act.put, List.setIfInBounds_toArray, List.set_cons_zero, List.set_cons_succ]
      refine wpAnyH_take (i := 7) (v := .agg #[.int .u64 b0, .int .u64 b1, .int .u64 b2, .int .u64 b3]) op7 (by kernel_rfl) (by kernel_rfl) (by kernel_rfl) (fun _ _ _ h => h) (Or.inl ⟨by rfl, fun W hS => ?_⟩) x93 ?_
      · obtain ⟨c0, c1, c2, c3, _⟩ := hS.f0 (List.Mem.tail _ (List.Mem.tail _ (List.Mem.head _)))
        go_simp
      simp only [Act.put, List.setIfInBounds_toArray, List.set_cons_zero, List.set_cons_succ]
      refine wpAnyH_take (i := 9) (v := .agg #[.int .u64 r0, .int .u64 r1, .int .u64 r2, .int .u64 r3]) op9 (by kernel_rfl) (by kernel_rfl) (by kernel_rfl) (fun _ _ _ h => h) (Or.inl ⟨by rfl, fun W hS => ?_⟩) x93 ?_
      · obtain ⟨c0, c1, c2, c3, _⟩ := hS.f0 (List.Mem.head _)
        go_simp
      simp only [Act.put, List.setIfInBounds_toArray, List.set_cons_zero, List.set_cons_succ]
      refine wpAnyH_ready (rs := [8]) (by kernel_rfl) (by simp) ?_
      refine AllReadyH.cons op8 (fun K hK => ?_) AllReadyH.nil
      rw [if_pos (by rfl)]
      go_simp
      refine (HSM.out _).mono ?_
      rintro e g94 ⟨rfl, hB⟩
      have x95 : Bx w [(bk42, r0, r1, r2, r3), (bk3, q0, q1, q2, q3), (w.heap.size + 1, b0, b1, b2, b3), (w.heap.size, a0, a1, a2, a3)] g94 := x93.past hB
      clear hB x93
      (try go_wp2_with fail)
      refine hK.out _ _ x95 (fun _ => ?_)
      clear hK K
      refine wpAnyH_take (i := 10) (v := .bool false) op10 (by kernel_rfl) (by kernel_rfl) (by kernel_rfl) (fun _ _ _ h => h) (Or.inl ⟨by rfl, fun W hS => ?_⟩) x95 ?_
      · go_simp
      simp only [Act.put, List.setIfInBounds_toArray, List.set_cons_zero, List.set_cons_succ]
      refine wpAnyH_take (i := 11) (v := .bool false) op11 (by kernel_rfl) (by kernel_rfl) (by kernel_rfl) (fun _ _ _ h => h) (Or.inl ⟨by rfl, fun W hS => ?_⟩) x95 ?_
      · go_simp
      simp only [Act.put, List.setIfInBounds_toArray, List.set_cons_zero, List.set_cons_succ]
      refine wpAnyH_done (by kernel_rfl) ?_ _
      have X96 : Hid (Bx w [(bk42, r0, r1, r2, r3), (bk3, q0, q1, q2, q3), (w.heap.size + 1, b0, b1, b2, b3), (w.heap.size, a0, a1, a2, a3)] g94) := x95
      clear x95
      go_upto_region 9 with fail
      refine wp_region_held_drew (S := fun w' => Bx w [(bk42, r0, r1, r2, r3), (bk3, q0, q1, q2, q3), (w.heap.size + 1, b0, b1, b2, b3), (w.heap.size, a0, a1, a2, a3)] w') (by kernel_rfl) X96.out.drew (fun hHeld => ?_)
      generalize g94.drew = g97 at hHeld ⊢
      clear X96
      refine wpAnyH_take (i := 0) (v := .agg #[.int .u64 b0, .int .u64 b1, .int .u64 b2, .int .u64 b3]) op0 (by kernel_rfl) (by kernel_rfl) (by kernel_rfl) (fun _ _ _ h => h) (Or.inl ⟨by rfl, fun W hS => ?_⟩) hHeld ?_
      · obtain ⟨c0, c1, c2, c3, _⟩ := hS.f0 (List.Mem.tail _ (List.Mem.tail _ (List.Mem.head _)))
        go_simp
      simp only [Act.put, List.setIfInBounds_toArray, List.set_cons_zero, List.set_cons_succ]
      refine wpAnyH_take (i := 1) (v := .agg #[.int .u64 0, .int .u64 0, .int .u64 0, .int .u64 0]) op1 (by kernel_rfl) (by kernel_rfl) (by kernel_rfl) (fun _ _ _ h => h) (Or.inl ⟨by rfl, fun W hS => ?_⟩) hHeld ?_
      · go_simp
      simp only [Act.put, List.setIfInBounds_toArray, List.set_cons_zero, List.set_cons_succ]
      refine wpAnyH_take (i := 2) (v := .bool false) op2 (by kernel_rfl) (by kernel_rfl) (by kernel_rfl) (fun _ _ _ h => h) (Or.inl ⟨by rfl, fun W hS => ?_⟩) hHeld ?_
      · go_simp
      simp only [Act.put, List.setIfInBounds_toArray, List.set_cons_zero, List.set_cons_succ]
      refine wpAnyH_take (i := 3) (v := .bool false) op3 (by kernel_rfl) (by kernel_rfl) (by kernel_rfl) (fun _ _ _ h => h) (Or.inl ⟨by rfl, fun W hS => ?_⟩) hHeld ?_
      · go_simp
      simp only [Act.put, List.setIfInBounds_toArray, List.set_cons_zero, List.set_cons_succ]
      refine wpAnyH_take (i := 4) (v := .agg #[.int .u64 q0, .int .u64 q1, .int .u64 q2, .int .u64 q3]) op4 (by kernel_rfl) (by kernel_rfl) (by kernel_rfl) (fun _ _ _ h => h) (Or.inl ⟨by rfl, fun W hS => ?_⟩) hHeld ?_
      · obtain ⟨c0, c1, c2, c3, _⟩ := hS.f0 (List.Mem.tail _ (List.Mem.head _))
        go_simp
      simp only [Act.put, List.setIfInBounds_toArray, List.set_cons_zero, List.set_cons_succ]
      refine wpAnyH_take (i := 5) (v := .agg #[.int .u64 b0, .int .u64 b1, .int .u64 b2, .int .u64 b3]) op5 (by kernel_rfl) (by kernel_rfl) (by kernel_rfl) (fun _ _ _ h => h) (Or.inl ⟨by rfl, fun W hS => ?_⟩) hHeld ?_
      · obtain ⟨c0, c1, c2, c3, _⟩ := hS.f0 (List.Mem.tail _ (List.Mem.tail _ (List.Mem.head _)))
        go_simp
      simp only [Act.put, List.setIfInBounds_toArray, List.set_cons_zero, List.set_cons_succ]
      refine wpAnyH_take (i := 7) (v := .agg #[.int .u64 r0, .int .u64 r1, .int .u64 r2, .int .u64 r3]) op7 (by kernel_rfl) (by kernel_rfl) (by kernel_rfl) (fun _ _ _ h => h) (Or.inl ⟨by rfl, fun W hS => ?_⟩) hHeld ?_
      · obtain ⟨c0, c1, c2, c3, _⟩ := hS.f0 (List.Mem.head _)
        go_simp
      simp only [Act.put, List.setIfInBounds_toArray, List.set_cons_zero, List.set_cons_succ]
      refine wpAnyH_take (i := 9) (v := .agg #[.int .u64 a0, .int .u64 a1, .int .u64 a2, .int .u64 a3]) op9 (by kernel_rfl) (by kernel_rfl) (by kernel_rfl) (fun _ _ _ h => h) (Or.inl ⟨by rfl, fun W hS => ?_⟩) hHeld ?_
      · obtain ⟨c0, c1, c2, c3, _⟩ := hS.f0 (List.Mem.tail _ (List.Mem.tail _ (List.Mem.tail _ (List.Mem.head _))))
        go_simp
      simp only [Act.put, List.setIfInBounds_toArray, List.set_cons_zero, List.set_cons_succ]
      refine wpAnyH_ready (rs := [6]) (by kernel_rfl) (by simp) ?_
      refine AllReadyH.cons op6 (fun K hK => ?_) AllReadyH.nil
      rw [if_pos (by rfl)]
      go_simp
      refine (HMU.out _).mono ?_
      rintro e g98 ⟨rfl, hB⟩
      have x99 : Bx w [(bk42, r0, r1, r2, r3), (bk3, q0, q1, q2, q3), (w.heap.size + 1, b0, b1, b2, b3), (w.heap.size, a0, a1, a2, a3)] g98 := hHeld.past hB
      clear hB hHeld
      (try go_wp2_with fail)
      refine hK.out _ _ x99 (fun _ => ?_)
      clear hK K
      refine wpAnyH_ready (rs := [8]) (by kernel_rfl) (by simp) ?_
      refine AllReadyH.cons op8 (fun K hK => ?_) AllReadyH.nil
      rw [if_pos (by rfl)]
      go_simp
      refine (HAD.out _).mono ?_
      rintro e g100 ⟨rfl, hB⟩
      have x101 : Bx w [(bk42, r0, r1, r2, r3), (bk3, q0, q1, q2, q3), (w.heap.size + 1, b0, b1, b2, b3), (w.heap.size, a0, a1, a2, a3)] g100 := x99.past hB
      clear hB x99
      (try go_wp2_with fail)
      refine hK.out _ _ x101 (fun _ => ?_)
      clear hK K
      refine wpAnyH_take (i := 10) (v := .bool true) op10 (by kernel_rfl) (by kernel_rfl) (by kernel_rfl) (fun _ _ _ h => h) (Or.inl ⟨by rfl, fun W hS => ?_⟩) x101 ?_
      · go_simp
      simp only [Act.put, List.setIfInBounds_toArray, List.set_cons_zero, List.set_cons_succ]
      refine wpAnyH_take (i := 11) (v := .bool true) op11 (by kernel_rfl) (by kernel_rfl) (by kernel_rfl) (fun _ _ _ h => h) (Or.inl ⟨by rfl, fun W hS => ?_⟩) x101 ?_
      · go_simp
      simp only [Act.put, List.setIfInBounds_toArray, List.set_cons_zero, List.set_cons_succ]
      refine wpAnyH_take (i := 12) (v := .bool true) op12 (by kernel_rfl) (by kernel_rfl) (by kernel_rfl) (fun _ _ _ h => h) (Or.inl ⟨by rfl, fun W hS => ?_⟩) x101 ?_
      · go_simp
      simp only [Act.put, List.setIfInBounds_toArray, List.set_cons_zero, List.set_cons_succ]
      refine wpAnyH_ready (rs := [13]) (by kernel_rfl) (by simp) ?_
      refine AllReadyH.cons op13 (fun K hK => ?_) AllReadyH.nil
      rw [if_pos (by rfl)]
      go_simp
      refine (awake_any _).mono ?_
      rintro e g102 ⟨rfl, hB⟩
      have x103 : Bx w [(bk42, r0, r1, r2, r3), (bk3, q0, q1, q2, q3), (w.heap.size + 1, b0, b1, b2, b3), (w.heap.size, a0, a1, a2, a3)] g102 := x101.past hB
      clear hB x101
      (try go_wp2_with fail)
      refine hK.out _ _ x103 (fun _ => ?_)
      clear hK K
      refine wpAnyH_take (i := 14) (v := .bool true) op14 (by kernel_rfl) (by kernel_rfl) (by kernel_rfl) (fun _ _ _ h => h) (Or.inl ⟨by rfl, fun W hS => ?_⟩) x103 ?_
      · go_simp
      simp only [Act.put, List.setIfInBounds_toArray, List.set_cons_zero, List.set_cons_succ]
      refine wpAnyH_take (i := 15) (v := .bool true) op15 (by kernel_rfl) (by kernel_rfl) (by kernel_rfl) (fun _ _ _ h => h) (Or.inl ⟨by rfl, fun W hS => ?_⟩) x103 ?_
      · go_simp
      simp only [Act.put, List.setIfInBounds_toArray, List.set_cons_zero, List.set_cons_succ]
      refine wpAnyH_done (by kernel_rfl) ?_ _
      have X104 : Hid (Bx w [(bk42, r0, r1, r2, r3), (bk3, q0, q1, q2, q3), (w.heap.size + 1, b0, b1, b2, b3), (w.heap.size, a0, a1, a2, a3)] g102) := x103
      clear x103
      go_wp2
      go_ret
      exact ⟨rfl, X104.out.bel⟩
end Go.Proofs.Ytpadpmkfhljiiaa
