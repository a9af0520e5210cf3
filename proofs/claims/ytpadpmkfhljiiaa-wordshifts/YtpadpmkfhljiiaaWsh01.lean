/- WordShifts: the walk, near or far, by the sign. -/
import Derived.Test.YtpadpmkfhljiiaaSh
import Derived.Test.YtpadpmkfhljiiaaSg
import Derived.Test.YtpadpmkfhljiiaaWd
namespace Go.Proofs.Ytpadpmkfhljiiaa
open Go.RowKit
set_option maxHeartbeats 4000000 in
set_option maxRecDepth 100000 in
theorem wsh_01 (n0 n1 n2 n3 x0 x1 x2 x3 p0 p1 p2 p3 m0 m1 m2 m3 d0 d1 d2 d3 t0 t1 t2 t3 c0 c1 c2 c3 e0 e1 e2 e3 : Int) (EX : ∀ w : World, Calls Try.prog 17 #[.agg #[.int .u64 2, .int .u64 0, .int .u64 0, .int .u64 0], .agg #[.int .u64 n0, .int .u64 n1, .int .u64 n2, .int .u64 n3]] w fun e w' => e = .returned (.agg #[.int .u64 p0, .int .u64 p1, .int .u64 p2, .int .u64 p3]) ∧ Below w.heap.size w w') (LN : ∀ w : World, Calls Try.prog 20 #[.agg #[.int .u64 n0, .int .u64 n1, .int .u64 n2, .int .u64 n3], .agg #[.int .u64 256, .int .u64 0, .int .u64 0, .int .u64 0]] w fun e w' => e = .returned (.bool true) ∧ Below w.heap.size w w') (MU : ∀ w : World, Calls Try.prog 35 #[.agg #[.int .u64 x0, .int .u64 x1, .int .u64 x2, .int .u64 x3], .agg #[.int .u64 p0, .int .u64 p1, .int .u64 p2, .int .u64 p3]] w fun e w' => e = .returned (.agg #[.int .u64 m0, .int .u64 m1, .int .u64 m2, .int .u64 m3]) ∧ Below w.heap.size w w') (DI : ∀ w : World, Calls Try.prog 38 #[.agg #[.int .u64 x0, .int .u64 x1, .int .u64 x2, .int .u64 x3], .agg #[.int .u64 p0, .int .u64 p1, .int .u64 p2, .int .u64 p3]] w fun e w' => e = .returned (.agg #[.int .u64 d0, .int .u64 d1, .int .u64 d2, .int .u64 d3]) ∧ Below w.heap.size w w') (SL : ∀ w : World, Calls Try.prog 47 #[.agg #[.int .u64 n0, .int .u64 n1, .int .u64 n2, .int .u64 n3], .agg #[.int .u64 x0, .int .u64 x1, .int .u64 x2, .int .u64 x3]] w fun e w' => e = .returned (.agg #[.int .u64 m0, .int .u64 m1, .int .u64 m2, .int .u64 m3]) ∧ Below w.heap.size w w') (SR : ∀ w : World, Calls Try.prog 48 #[.agg #[.int .u64 n0, .int .u64 n1, .int .u64 n2, .int .u64 n3], .agg #[.int .u64 x0, .int .u64 x1, .int .u64 x2, .int .u64 x3]] w fun e w' => e = .returned (.agg #[.int .u64 d0, .int .u64 d1, .int .u64 d2, .int .u64 d3]) ∧ Below w.heap.size w w') (SG : ∀ w : World, Calls Try.prog 41 #[.agg #[.int .u64 x0, .int .u64 x1, .int .u64 x2, .int .u64 x3]] w fun e w' => e = .returned (.bool true) ∧ Below w.heap.size w w') (SA : ∀ w : World, Calls Try.prog 49 #[.agg #[.int .u64 n0, .int .u64 n1, .int .u64 n2, .int .u64 n3], .agg #[.int .u64 x0, .int .u64 x1, .int .u64 x2, .int .u64 x3]] w fun e w' => e = .returned (.agg #[.int .u64 t0, .int .u64 t1, .int .u64 t2, .int .u64 t3]) ∧ Below w.heap.size w w') (NX : ∀ w : World, Calls Try.prog 32 #[.agg #[.int .u64 x0, .int .u64 x1, .int .u64 x2, .int .u64 x3]] w fun e w' => e = .returned (.agg #[.int .u64 c0, .int .u64 c1, .int .u64 c2, .int .u64 c3]) ∧ Below w.heap.size w w') (SC : ∀ w : World, Calls Try.prog 48 #[.agg #[.int .u64 n0, .int .u64 n1, .int .u64 n2, .int .u64 n3], .agg #[.int .u64 c0, .int .u64 c1, .int .u64 c2, .int .u64 c3]] w fun e w' => e = .returned (.agg #[.int .u64 e0, .int .u64 e1, .int .u64 e2, .int .u64 e3]) ∧ Below w.heap.size w w') (NE : ∀ w : World, Calls Try.prog 32 #[.agg #[.int .u64 e0, .int .u64 e1, .int .u64 e2, .int .u64 e3]] w fun e w' => e = .returned (.agg #[.int .u64 t0, .int .u64 t1, .int .u64 t2, .int .u64 t3]) ∧ Below w.heap.size w w') (w : World) :
    Calls Try.prog 11 #[.agg #[.int .u64 n0, .int .u64 n1, .int .u64 n2, .int .u64 n3], .agg #[.int .u64 x0, .int .u64 x1, .int .u64 x2, .int .u64 x3]] w fun e w' => e = .returned (.bool true) ∧ Below w.heap.size w w' := by
  have eqs := eqw_same
  have HEX : Hid (∀ w : World, Calls Try.prog 17 #[.agg #[.int .u64 2, .int .u64 0, .int .u64 0, .int .u64 0], .agg #[.int .u64 n0, .int .u64 n1, .int .u64 n2, .int .u64 n3]] w fun e w' => e = .returned (.agg #[.int .u64 p0, .int .u64 p1, .int .u64 p2, .int .u64 p3]) ∧ Below w.heap.size w w') := EX
  have HLN : Hid (∀ w : World, Calls Try.prog 20 #[.agg #[.int .u64 n0, .int .u64 n1, .int .u64 n2, .int .u64 n3], .agg #[.int .u64 256, .int .u64 0, .int .u64 0, .int .u64 0]] w fun e w' => e = .returned (.bool true) ∧ Below w.heap.size w w') := LN
  have HMU : Hid (∀ w : World, Calls Try.prog 35 #[.agg #[.int .u64 x0, .int .u64 x1, .int .u64 x2, .int .u64 x3], .agg #[.int .u64 p0, .int .u64 p1, .int .u64 p2, .int .u64 p3]] w fun e w' => e = .returned (.agg #[.int .u64 m0, .int .u64 m1, .int .u64 m2, .int .u64 m3]) ∧ Below w.heap.size w w') := MU
  have HDI : Hid (∀ w : World, Calls Try.prog 38 #[.agg #[.int .u64 x0, .int .u64 x1, .int .u64 x2, .int .u64 x3], .agg #[.int .u64 p0, .int .u64 p1, .int .u64 p2, .int .u64 p3]] w fun e w' => e = .returned (.agg #[.int .u64 d0, .int .u64 d1, .int .u64 d2, .int .u64 d3]) ∧ Below w.heap.size w w') := DI
  have HSL : Hid (∀ w : World, Calls Try.prog 47 #[.agg #[.int .u64 n0, .int .u64 n1, .int .u64 n2, .int .u64 n3], .agg #[.int .u64 x0, .int .u64 x1, .int .u64 x2, .int .u64 x3]] w fun e w' => e = .returned (.agg #[.int .u64 m0, .int .u64 m1, .int .u64 m2, .int .u64 m3]) ∧ Below w.heap.size w w') := SL
  have HSR : Hid (∀ w : World, Calls Try.prog 48 #[.agg #[.int .u64 n0, .int .u64 n1, .int .u64 n2, .int .u64 n3], .agg #[.int .u64 x0, .int .u64 x1, .int .u64 x2, .int .u64 x3]] w fun e w' => e = .returned (.agg #[.int .u64 d0, .int .u64 d1, .int .u64 d2, .int .u64 d3]) ∧ Below w.heap.size w w') := SR
  have HSG : Hid (∀ w : World, Calls Try.prog 41 #[.agg #[.int .u64 x0, .int .u64 x1, .int .u64 x2, .int .u64 x3]] w fun e w' => e = .returned (.bool true) ∧ Below w.heap.size w w') := SG
  have HSA : Hid (∀ w : World, Calls Try.prog 49 #[.agg #[.int .u64 n0, .int .u64 n1, .int .u64 n2, .int .u64 n3], .agg #[.int .u64 x0, .int .u64 x1, .int .u64 x2, .int .u64 x3]] w fun e w' => e = .returned (.agg #[.int .u64 t0, .int .u64 t1, .int .u64 t2, .int .u64 t3]) ∧ Below w.heap.size w w') := SA
  have HNX : Hid (∀ w : World, Calls Try.prog 32 #[.agg #[.int .u64 x0, .int .u64 x1, .int .u64 x2, .int .u64 x3]] w fun e w' => e = .returned (.agg #[.int .u64 c0, .int .u64 c1, .int .u64 c2, .int .u64 c3]) ∧ Below w.heap.size w w') := NX
  have HSC : Hid (∀ w : World, Calls Try.prog 48 #[.agg #[.int .u64 n0, .int .u64 n1, .int .u64 n2, .int .u64 n3], .agg #[.int .u64 c0, .int .u64 c1, .int .u64 c2, .int .u64 c3]] w fun e w' => e = .returned (.agg #[.int .u64 e0, .int .u64 e1, .int .u64 e2, .int .u64 e3]) ∧ Below w.heap.size w w') := SC
  have HNE : Hid (∀ w : World, Calls Try.prog 32 #[.agg #[.int .u64 e0, .int .u64 e1, .int .u64 e2, .int .u64 e3]] w fun e w' => e = .returned (.agg #[.int .u64 t0, .int .u64 t1, .int .u64 t2, .int .u64 t3]) ∧ Below w.heap.size w w') := NE
  clear EX LN MU DI SL SR SG SA NX SC NE
  go_enter Try.func11, Try.ntmps11
  go_upto_region 1 with fail
  have X1 : Hid (Bx w [(w.heap.size + 1, x0, x1, x2, x3), (w.heap.size, n0, n1, n2, n3)] ((w.alloc (.cells #[.int .u64 n0, .int .u64 n1, .int .u64 n2, .int .u64 n3] 24)).alloc (.cells #[.int .u64 x0, .int .u64 x1, .int .u64 x2, .int .u64 x3] 24))) := by
    have h := ((Bx.start w).alloc n0 n1 n2 n3).alloc x0 x1 x2 x3
    (try simp only [World.size_alloc] at h)
    exact h
  generalize ((w.alloc (.cells #[.int .u64 n0, .int .u64 n1, .int .u64 n2, .int .u64 n3] 24)).alloc (.cells #[.int .u64 x0, .int .u64 x1, .int .u64 x2, .int .u64 x3] 24)) = g2 at X1 ⊢
  go_cut [5] (fun sx wx => ∃ bk3 : Nat, sx = .pointer (some ⟨bk3, 0, none⟩) ∧ w.heap.size + 1 < bk3 ∧ w.heap.size < bk3 ∧ Bx w [(bk3, p0, p1, p2, p3), (w.heap.size + 1, x0, x1, x2, x3), (w.heap.size, n0, n1, n2, n3)] wx)
  case first =>
    refine wp_region_held_drew (S := fun w' => Bx w [(w.heap.size + 1, x0, x1, x2, x3), (w.heap.size, n0, n1, n2, n3)] w') (by kernel_rfl) X1.out.drew (fun hHeld => ?_)
    generalize g2.drew = g4 at hHeld ⊢
    refine wpAnyH_take (i := 1) (v := .agg #[.int .u64 n0, .int .u64 n1, .int .u64 n2, .int .u64 n3]) op1 (by kernel_rfl) (by kernel_rfl) (by kernel_rfl) (fun _ _ _ h => h) (Or.inl ⟨by rfl, fun W hS => ?_⟩) hHeld ?_
    · obtain ⟨c0, c1, c2, c3, _⟩ := hS.f0 (List.Mem.tail _ (List.Mem.head _))
      go_simp
    simp only [Act.put, List.setIfInBounds_toArray, List.set_cons_zero, List.set_cons_succ]
    refine wpAnyH_ready (rs := [0, 3]) (by kernel_rfl) (by simp) ?_
    refine AllReadyH.cons op0 (fun K hK => ?_) (AllReadyH.cons op3 (fun K hK => ?_) AllReadyH.nil)
    · rw [if_pos (by rfl)]
      go_simp
      refine (two_any _).mono ?_
      rintro e g6 ⟨rfl, hB⟩
      have x7 : Bx w [(w.heap.size + 1, x0, x1, x2, x3), (w.heap.size, n0, n1, n2, n3)] g6 := hHeld.past hB
      clear hB hHeld
      (try go_wp2_with fail)
      refine hK.out _ _ x7 (fun _ => ?_)
      clear hK K
      refine wpAnyH_ready (rs := [2, 3]) (by kernel_rfl) (by simp) ?_
      refine AllReadyH.cons op2 (fun K hK => ?_) (AllReadyH.cons op3 (fun K hK => ?_) AllReadyH.nil)
      · rw [if_pos (by rfl)]
        go_simp
        refine (HEX.out _).mono ?_
        rintro e g8 ⟨rfl, hB⟩
        have x9 : Bx w [(w.heap.size + 1, x0, x1, x2, x3), (w.heap.size, n0, n1, n2, n3)] g8 := x7.past hB
        clear hB x7
        (try go_wp2_with fail)
        refine hK.out _ _ x9 (fun _ => ?_)
        clear hK K
        refine wpAnyH_ready (rs := [3]) (by kernel_rfl) (by simp) ?_
        refine AllReadyH.cons op3 (fun K hK => ?_) AllReadyH.nil
        rw [if_pos (by rfl)]
        go_simp
        have x11 : Bx w ((g8.heap.size, 0, 0, 0, 0) :: [(w.heap.size + 1, x0, x1, x2, x3), (w.heap.size, n0, n1, n2, n3)]) (g8.alloc (.cells #[.int .u64 0, .int .u64 0, .int .u64 0, .int .u64 0] 24)) := x9.alloc 0 0 0 0
        have lbb5_0 : w.heap.size + 1 < g8.heap.size := x9.lt _ (List.Mem.head _)
        have lbb5_1 : w.heap.size < g8.heap.size := x9.lt _ (List.Mem.tail _ (List.Mem.head _))
        refine hK.out _ _ (Bx.sub x11 (fun p hp => List.Mem.tail _ hp)) (fun _ => ?_)
        clear hK K x9
        generalize g8.alloc (.cells #[.int .u64 0, .int .u64 0, .int .u64 0, .int .u64 0] 24) = g10 at x11 ⊢
        generalize g8.heap.size = bb5 at x11 lbb5_0 lbb5_1 ⊢
        refine wpAnyH_ready (rs := [4]) (by kernel_rfl) (by simp) ?_
        refine AllReadyH.cons op4 (fun K hK => ?_) AllReadyH.nil
        rw [if_pos (by rfl)]
        obtain ⟨c0, c1, c2, c3, f0, f1, f2, f3⟩ := x11.f0 (List.Mem.head _)
        go_simp
        have x13 : Bx w ((bb5, p0, p1, p2, p3) :: [(w.heap.size + 1, x0, x1, x2, x3), (w.heap.size, n0, n1, n2, n3)]) ((((g10.setCell ⟨bb5, 0, none⟩ (.int .u64 p0)).setCell ⟨bb5, 1, none⟩ (.int .u64 p1)).setCell ⟨bb5, 2, none⟩ (.int .u64 p2)).setCell ⟨bb5, 3, none⟩ (.int .u64 p3)) := Bx.put x11 (by intro p hp; simp only [List.mem_cons, List.not_mem_nil, or_false] at hp; rcases hp with rfl | rfl <;> simp <;> omega) p0 p1 p2 p3
        refine hK.out _ _ (Bx.sub x13 (fun p hp => List.Mem.tail _ hp)) (fun _ => ?_)
        clear hK K c0 c1 c2 c3 f0 f1 f2 f3 x11
        generalize ((((g10.setCell ⟨bb5, 0, none⟩ (.int .u64 p0)).setCell ⟨bb5, 1, none⟩ (.int .u64 p1)).setCell ⟨bb5, 2, none⟩ (.int .u64 p2)).setCell ⟨bb5, 3, none⟩ (.int .u64 p3)) = g12 at x13 ⊢
        (try simp only [Act.put])
        refine wpAnyH_done (by kernel_rfl) ?_ _
        go_wp2
        go_meet
        case rel => exact ⟨bb5, rfl, lbb5_0, lbb5_1, x13⟩
      · rw [if_pos (by rfl)]
        go_simp
        have x15 : Bx w ((g6.heap.size, 0, 0, 0, 0) :: [(w.heap.size + 1, x0, x1, x2, x3), (w.heap.size, n0, n1, n2, n3)]) (g6.alloc (.cells #[.int .u64 0, .int .u64 0, .int .u64 0, .int .u64 0] 24)) := x7.alloc 0 0 0 0
        have lbb5_0 : w.heap.size + 1 < g6.heap.size := x7.lt _ (List.Mem.head _)
        have lbb5_1 : w.heap.size < g6.heap.size := x7.lt _ (List.Mem.tail _ (List.Mem.head _))
        refine hK.out _ _ (Bx.sub x15 (fun p hp => List.Mem.tail _ hp)) (fun _ => ?_)
        clear hK K x7
        generalize g6.alloc (.cells #[.int .u64 0, .int .u64 0, .int .u64 0, .int .u64 0] 24) = g14 at x15 ⊢
        generalize g6.heap.size = bb5 at x15 lbb5_0 lbb5_1 ⊢
        refine wpAnyH_ready (rs := [2]) (by kernel_rfl) (by simp) ?_
        refine AllReadyH.cons op2 (fun K hK => ?_) AllReadyH.nil
        rw [if_pos (by rfl)]
        go_simp
        refine (HEX.out _).mono ?_
        rintro e g16 ⟨rfl, hB⟩
        have x17 : Bx w [(bb5, 0, 0, 0, 0), (w.heap.size + 1, x0, x1, x2, x3), (w.heap.size, n0, n1, n2, n3)] g16 := x15.past hB
        clear hB x15
        (try go_wp2_with fail)
        refine hK.out _ _ (Bx.sub x17 (fun p hp => List.Mem.tail _ hp)) (fun _ => ?_)
        clear hK K
        refine wpAnyH_ready (rs := [4]) (by kernel_rfl) (by simp) ?_
        refine AllReadyH.cons op4 (fun K hK => ?_) AllReadyH.nil
        rw [if_pos (by rfl)]
        obtain ⟨c0, c1, c2, c3, f0, f1, f2, f3⟩ := x17.f0 (List.Mem.head _)
        go_simp
        have x19 : Bx w ((bb5, p0, p1, p2, p3) :: [(w.heap.size + 1, x0, x1, x2, x3), (w.heap.size, n0, n1, n2, n3)]) ((((g16.setCell ⟨bb5, 0, none⟩ (.int .u64 p0)).setCell ⟨bb5, 1, none⟩ (.int .u64 p1)).setCell ⟨bb5, 2, none⟩ (.int .u64 p2)).setCell ⟨bb5, 3, none⟩ (.int .u64 p3)) := Bx.put x17 (by intro p hp; simp only [List.mem_cons, List.not_mem_nil, or_false] at hp; rcases hp with rfl | rfl <;> simp <;> omega) p0 p1 p2 p3
        refine hK.out _ _ (Bx.sub x19 (fun p hp => List.Mem.tail _ hp)) (fun _ => ?_)
        clear hK K c0 c1 c2 c3 f0 f1 f2 f3 x17
        generalize ((((g16.setCell ⟨bb5, 0, none⟩ (.int .u64 p0)).setCell ⟨bb5, 1, none⟩ (.int .u64 p1)).setCell ⟨bb5, 2, none⟩ (.int .u64 p2)).setCell ⟨bb5, 3, none⟩ (.int .u64 p3)) = g18 at x19 ⊢
        (try simp only [Act.put])
        refine wpAnyH_done (by kernel_rfl) ?_ _
        go_wp2
        go_meet
        case rel => exact ⟨bb5, rfl, lbb5_0, lbb5_1, x19⟩
    · rw [if_pos (by rfl)]
      go_simp
      have x21 : Bx w ((g4.heap.size, 0, 0, 0, 0) :: [(w.heap.size + 1, x0, x1, x2, x3), (w.heap.size, n0, n1, n2, n3)]) (g4.alloc (.cells #[.int .u64 0, .int .u64 0, .int .u64 0, .int .u64 0] 24)) := hHeld.alloc 0 0 0 0
      have lbb5_0 : w.heap.size + 1 < g4.heap.size := hHeld.lt _ (List.Mem.head _)
      have lbb5_1 : w.heap.size < g4.heap.size := hHeld.lt _ (List.Mem.tail _ (List.Mem.head _))
      refine hK.out _ _ (Bx.sub x21 (fun p hp => List.Mem.tail _ hp)) (fun _ => ?_)
      clear hK K hHeld
      generalize g4.alloc (.cells #[.int .u64 0, .int .u64 0, .int .u64 0, .int .u64 0] 24) = g20 at x21 ⊢
      generalize g4.heap.size = bb5 at x21 lbb5_0 lbb5_1 ⊢
      refine wpAnyH_ready (rs := [0]) (by kernel_rfl) (by simp) ?_
      refine AllReadyH.cons op0 (fun K hK => ?_) AllReadyH.nil
      rw [if_pos (by rfl)]
      go_simp
      refine (two_any _).mono ?_
      rintro e g22 ⟨rfl, hB⟩
      have x23 : Bx w [(bb5, 0, 0, 0, 0), (w.heap.size + 1, x0, x1, x2, x3), (w.heap.size, n0, n1, n2, n3)] g22 := x21.past hB
      clear hB x21
      (try go_wp2_with fail)
      refine hK.out _ _ (Bx.sub x23 (fun p hp => List.Mem.tail _ hp)) (fun _ => ?_)
      clear hK K
      refine wpAnyH_ready (rs := [2]) (by kernel_rfl) (by simp) ?_
      refine AllReadyH.cons op2 (fun K hK => ?_) AllReadyH.nil
      rw [if_pos (by rfl)]
      go_simp
      refine (HEX.out _).mono ?_
      rintro e g24 ⟨rfl, hB⟩
      have x25 : Bx w [(bb5, 0, 0, 0, 0), (w.heap.size + 1, x0, x1, x2, x3), (w.heap.size, n0, n1, n2, n3)] g24 := x23.past hB
      clear hB x23
      (try go_wp2_with fail)
      refine hK.out _ _ (Bx.sub x25 (fun p hp => List.Mem.tail _ hp)) (fun _ => ?_)
      clear hK K
      refine wpAnyH_ready (rs := [4]) (by kernel_rfl) (by simp) ?_
      refine AllReadyH.cons op4 (fun K hK => ?_) AllReadyH.nil
      rw [if_pos (by rfl)]
      obtain ⟨c0, c1, c2, c3, f0, f1, f2, f3⟩ := x25.f0 (List.Mem.head _)
      go_simp
      have x27 : Bx w ((bb5, p0, p1, p2, p3) :: [(w.heap.size + 1, x0, x1, x2, x3), (w.heap.size, n0, n1, n2, n3)]) ((((g24.setCell ⟨bb5, 0, none⟩ (.int .u64 p0)).setCell ⟨bb5, 1, none⟩ (.int .u64 p1)).setCell ⟨bb5, 2, none⟩ (.int .u64 p2)).setCell ⟨bb5, 3, none⟩ (.int .u64 p3)) := Bx.put x25 (by intro p hp; simp only [List.mem_cons, List.not_mem_nil, or_false] at hp; rcases hp with rfl | rfl <;> simp <;> omega) p0 p1 p2 p3
      refine hK.out _ _ (Bx.sub x27 (fun p hp => List.Mem.tail _ hp)) (fun _ => ?_)
      clear hK K c0 c1 c2 c3 f0 f1 f2 f3 x25
      generalize ((((g24.setCell ⟨bb5, 0, none⟩ (.int .u64 p0)).setCell ⟨bb5, 1, none⟩ (.int .u64 p1)).setCell ⟨bb5, 2, none⟩ (.int .u64 p2)).setCell ⟨bb5, 3, none⟩ (.int .u64 p3)) = g26 at x27 ⊢
      (try simp only [Act.put])
      refine wpAnyH_done (by kernel_rfl) ?_ _
      go_wp2
      go_meet
      case rel => exact ⟨bb5, rfl, lbb5_0, lbb5_1, x27⟩
  case rest =>
    obtain ⟨bk3, rfl, lbk3_0, lbk3_1, hX⟩ := hcut
    have X28 : Hid (Bx w [(bk3, p0, p1, p2, p3), (w.heap.size + 1, x0, x1, x2, x3), (w.heap.size, n0, n1, n2, n3)] wc) := hX
    generalize wc = g29 at hX X28 ⊢
    clear hX X1
    go_upto_region 2 with fail
    obtain ⟨k30_2_0, k30_2_1, k30_2_2, k30_2_3, k30_2_4, k30_2_5, k30_2_6, k30_2_7⟩ := X28.out.f0 (List.Mem.tail _ (List.Mem.tail _ (List.Mem.head _)))
    go_upto_region 3 with (first | (go_at_call 20; refine (HLN.out _).mono ?_; rintro e g32 ⟨rfl, hB⟩; (have X31 : Hid (Bx w [(bk3, p0, p1, p2, p3), (w.heap.size + 1, x0, x1, x2, x3), (w.heap.size, n0, n1, n2, n3)] g32) := X28.out.past hB); clear hB X28 k30_2_0 k30_2_1 k30_2_2 k30_2_3 k30_2_4 k30_2_5 k30_2_6 k30_2_7; obtain ⟨k33_2_0, k33_2_1, k33_2_2, k33_2_3, k33_2_4, k33_2_5, k33_2_6, k33_2_7⟩ := X31.out.f0 (List.Mem.tail _ (List.Mem.tail _ (List.Mem.head _)))))
    clear k33_2_0 k33_2_1 k33_2_2 k33_2_3 k33_2_4 k33_2_5 k33_2_6 k33_2_7
    obtain ⟨k34_0_0, k34_0_1, k34_0_2, k34_0_3, k34_0_4, k34_0_5, k34_0_6, k34_0_7⟩ := X31.out.f0 (List.Mem.head _)
    obtain ⟨k34_1_0, k34_1_1, k34_1_2, k34_1_3, k34_1_4, k34_1_5, k34_1_6, k34_1_7⟩ := X31.out.f0 (List.Mem.tail _ (List.Mem.head _))
    go_upto_region 4 with (first | (go_at_call 35; refine (HMU.out _).mono ?_; rintro e g36 ⟨rfl, hB⟩; (have X35 : Hid (Bx w [(bk3, p0, p1, p2, p3), (w.heap.size + 1, x0, x1, x2, x3), (w.heap.size, n0, n1, n2, n3)] g36) := X31.out.past hB); clear hB X31 k34_0_0 k34_0_1 k34_0_2 k34_0_3 k34_0_4 k34_0_5 k34_0_6 k34_0_7 k34_1_0 k34_1_1 k34_1_2 k34_1_3 k34_1_4 k34_1_5 k34_1_6 k34_1_7; obtain ⟨k37_0_0, k37_0_1, k37_0_2, k37_0_3, k37_0_4, k37_0_5, k37_0_6, k37_0_7⟩ := X35.out.f0 (List.Mem.head _); obtain ⟨k37_1_0, k37_1_1, k37_1_2, k37_1_3, k37_1_4, k37_1_5, k37_1_6, k37_1_7⟩ := X35.out.f0 (List.Mem.tail _ (List.Mem.head _))))
    clear k37_0_0 k37_0_1 k37_0_2 k37_0_3 k37_0_4 k37_0_5 k37_0_6 k37_0_7 k37_1_0 k37_1_1 k37_1_2 k37_1_3 k37_1_4 k37_1_5 k37_1_6 k37_1_7
    have X40 : Hid (Bx w ((g36.heap.size, m0, m1, m2, m3) :: [(bk3, p0, p1, p2, p3), (w.heap.size + 1, x0, x1, x2, x3), (w.heap.size, n0, n1, n2, n3)]) (g36.alloc (.cells #[.int .u64 m0, .int .u64 m1, .int .u64 m2, .int .u64 m3] 24))) := X35.out.alloc m0 m1 m2 m3
    have lbk38_0 : bk3 < g36.heap.size := X35.out.lt _ (List.Mem.head _)
    have lbk38_1 : w.heap.size + 1 < g36.heap.size := X35.out.lt _ (List.Mem.tail _ (List.Mem.head _))
    have lbk38_2 : w.heap.size < g36.heap.size := X35.out.lt _ (List.Mem.tail _ (List.Mem.tail _ (List.Mem.head _)))
    generalize g36.alloc (.cells #[.int .u64 m0, .int .u64 m1, .int .u64 m2, .int .u64 m3] 24) = g39 at X40 ⊢
    generalize g36.heap.size = bk38 at X40 lbk38_0 lbk38_1 lbk38_2 ⊢
    clear X35
    go_upto_region 5 with fail
    have X44 : Hid (Bx w ((g39.heap.size, 0, 0, 0, 0) :: [(bk38, m0, m1, m2, m3), (bk3, p0, p1, p2, p3), (w.heap.size + 1, x0, x1, x2, x3), (w.heap.size, n0, n1, n2, n3)]) (g39.alloc (.cells #[.int .u64 0, .int .u64 0, .int .u64 0, .int .u64 0] 24))) := X40.out.alloc 0 0 0 0
    have lbk42_0 : bk38 < g39.heap.size := X40.out.lt _ (List.Mem.head _)
    have lbk42_1 : bk3 < g39.heap.size := X40.out.lt _ (List.Mem.tail _ (List.Mem.head _))
    have lbk42_2 : w.heap.size + 1 < g39.heap.size := X40.out.lt _ (List.Mem.tail _ (List.Mem.tail _ (List.Mem.head _)))
    have lbk42_3 : w.heap.size < g39.heap.size := X40.out.lt _ (List.Mem.tail _ (List.Mem.tail _ (List.Mem.tail _ (List.Mem.head _))))
    generalize g39.alloc (.cells #[.int .u64 0, .int .u64 0, .int .u64 0, .int .u64 0] 24) = g43 at X44 ⊢
    generalize g39.heap.size = bk42 at X44 lbk42_0 lbk42_1 lbk42_2 lbk42_3 ⊢
    clear X40
    go_upto_region 7 with fail
    obtain ⟨k46_0_0, k46_0_1, k46_0_2, k46_0_3, k46_0_4, k46_0_5, k46_0_6, k46_0_7⟩ := X44.out.f0 (List.Mem.head _)
    obtain ⟨k46_2_0, k46_2_1, k46_2_2, k46_2_3, k46_2_4, k46_2_5, k46_2_6, k46_2_7⟩ := X44.out.f0 (List.Mem.tail _ (List.Mem.tail _ (List.Mem.head _)))
    obtain ⟨k46_3_0, k46_3_1, k46_3_2, k46_3_3, k46_3_4, k46_3_5, k46_3_6, k46_3_7⟩ := X44.out.f0 (List.Mem.tail _ (List.Mem.tail _ (List.Mem.tail _ (List.Mem.head _))))
    go_upto_region 8 with (first | (go_at_call 38; refine (HDI.out _).mono ?_; rintro e g48 ⟨rfl, hB⟩; (have X47 : Hid (Bx w [(bk42, 0, 0, 0, 0), (bk38, m0, m1, m2, m3), (bk3, p0, p1, p2, p3), (w.heap.size + 1, x0, x1, x2, x3), (w.heap.size, n0, n1, n2, n3)] g48) := X44.out.past hB); clear hB X44 k46_0_0 k46_0_1 k46_0_2 k46_0_3 k46_0_4 k46_0_5 k46_0_6 k46_0_7 k46_2_0 k46_2_1 k46_2_2 k46_2_3 k46_2_4 k46_2_5 k46_2_6 k46_2_7 k46_3_0 k46_3_1 k46_3_2 k46_3_3 k46_3_4 k46_3_5 k46_3_6 k46_3_7; obtain ⟨k49_0_0, k49_0_1, k49_0_2, k49_0_3, k49_0_4, k49_0_5, k49_0_6, k49_0_7⟩ := X47.out.f0 (List.Mem.head _); obtain ⟨k49_2_0, k49_2_1, k49_2_2, k49_2_3, k49_2_4, k49_2_5, k49_2_6, k49_2_7⟩ := X47.out.f0 (List.Mem.tail _ (List.Mem.tail _ (List.Mem.head _))); obtain ⟨k49_3_0, k49_3_1, k49_3_2, k49_3_3, k49_3_4, k49_3_5, k49_3_6, k49_3_7⟩ := X47.out.f0 (List.Mem.tail _ (List.Mem.tail _ (List.Mem.tail _ (List.Mem.head _))))))
    clear k49_0_0 k49_0_1 k49_0_2 k49_0_3 k49_0_4 k49_0_5 k49_0_6 k49_0_7 k49_2_0 k49_2_1 k49_2_2 k49_2_3 k49_2_4 k49_2_5 k49_2_6 k49_2_7 k49_3_0 k49_3_1 k49_3_2 k49_3_3 k49_3_4 k49_3_5 k49_3_6 k49_3_7
    have X50 : Hid (Bx w ((bk42, d0, d1, d2, d3) :: [(bk38, m0, m1, m2, m3), (bk3, p0, p1, p2, p3), (w.heap.size + 1, x0, x1, x2, x3), (w.heap.size, n0, n1, n2, n3)]) ((((g48.setCell ⟨bk42, 0, none⟩ (.int .u64 d0)).setCell ⟨bk42, 1, none⟩ (.int .u64 d1)).setCell ⟨bk42, 2, none⟩ (.int .u64 d2)).setCell ⟨bk42, 3, none⟩ (.int .u64 d3))) := Bx.put (Bx.sub X47.out (l := [(bk42, 0, 0, 0, 0), (bk38, m0, m1, m2, m3), (bk3, p0, p1, p2, p3), (w.heap.size + 1, x0, x1, x2, x3), (w.heap.size, n0, n1, n2, n3)]) (m := [(bk42, 0, 0, 0, 0), (bk38, m0, m1, m2, m3), (bk3, p0, p1, p2, p3), (w.heap.size + 1, x0, x1, x2, x3), (w.heap.size, n0, n1, n2, n3)]) (by intro p hp; simp only [List.mem_cons, List.not_mem_nil, or_false] at hp ⊢; rcases hp with rfl | rfl | rfl | rfl | rfl <;> simp)) (by intro p hp; simp only [List.mem_cons, List.not_mem_nil, or_false] at hp; rcases hp with rfl | rfl | rfl | rfl <;> simp <;> omega) d0 d1 d2 d3
    generalize ((((g48.setCell ⟨bk42, 0, none⟩ (.int .u64 d0)).setCell ⟨bk42, 1, none⟩ (.int .u64 d1)).setCell ⟨bk42, 2, none⟩ (.int .u64 d2)).setCell ⟨bk42, 3, none⟩ (.int .u64 d3)) = g51 at X50 ⊢
    clear X47
    refine wp_region_held_drew (S := fun w' => Bx w [(bk42, d0, d1, d2, d3), (bk38, m0, m1, m2, m3), (bk3, p0, p1, p2, p3), (w.heap.size + 1, x0, x1, x2, x3), (w.heap.size, n0, n1, n2, n3)] w') (by kernel_rfl) X50.out.drew (fun hHeld => ?_)
    generalize g51.drew = g52 at hHeld ⊢
    clear X50
    refine wpAnyH_take (i := 0) (v := .agg #[.int .u64 n0, .int .u64 n1, .int .u64 n2, .int .u64 n3]) op0 (by kernel_rfl) (by kernel_rfl) (by kernel_rfl) (fun _ _ _ h => h) (Or.inl ⟨by rfl, fun W hS => ?_⟩) hHeld ?_
    · obtain ⟨c0, c1, c2, c3, _⟩ := hS.f0 (List.Mem.tail _ (List.Mem.tail _ (List.Mem.tail _ (List.Mem.tail _ (List.Mem.head _)))))
      go_simp
    simp only [Act.put, List.setIfInBounds_toArray, List.set_cons_zero, List.set_cons_succ]
    refine wpAnyH_take (i := 1) (v := .agg #[.int .u64 x0, .int .u64 x1, .int .u64 x2, .int .u64 x3]) op1 (by kernel_rfl) (by kernel_rfl) (by kernel_rfl) (fun _ _ _ h => h) (Or.inl ⟨by rfl, fun W hS => ?_⟩) hHeld ?_
    · obtain ⟨c0, c1, c2, c3, _⟩ := hS.f0 (List.Mem.tail _ (List.Mem.tail _ (List.Mem.tail _ (List.Mem.head _))))
      go_simp
    simp only [Act.put, List.setIfInBounds_toArray, List.set_cons_zero, List.set_cons_succ]
    refine wpAnyH_take (i := 3) (v := .agg #[.int .u64 m0, .int .u64 m1, .int .u64 m2, .int .u64 m3]) op3 (by kernel_rfl) (by kernel_rfl) (by kernel_rfl) (fun _ _ _ h => h) (Or.inl ⟨by rfl, fun W hS => ?_⟩) hHeld ?_
    · obtain ⟨c0, c1, c2, c3, _⟩ := hS.f0 (List.Mem.tail _ (List.Mem.head _))
      go_simp
    simp only [Act.put, List.setIfInBounds_toArray, List.set_cons_zero, List.set_cons_succ]
    refine wpAnyH_ready (rs := [2]) (by kernel_rfl) (by simp) ?_
    refine AllReadyH.cons op2 (fun K hK => ?_) AllReadyH.nil
    rw [if_pos (by rfl)]
    go_simp
    refine (HSL.out _).mono ?_
    rintro e g53 ⟨rfl, hB⟩
    have x54 : Bx w [(bk42, d0, d1, d2, d3), (bk38, m0, m1, m2, m3), (bk3, p0, p1, p2, p3), (w.heap.size + 1, x0, x1, x2, x3), (w.heap.size, n0, n1, n2, n3)] g53 := hHeld.past hB
    clear hB hHeld
    (try go_wp2_with fail)
    refine hK.out _ _ x54 (fun _ => ?_)
    clear hK K
    refine wpAnyH_take (i := 4) (v := .bool false) op4 (by kernel_rfl) (by kernel_rfl) (by kernel_rfl) (fun _ _ _ h => h) (Or.inl ⟨by rfl, fun W hS => ?_⟩) x54 ?_
    · go_simp
    simp only [Act.put, List.setIfInBounds_toArray, List.set_cons_zero, List.set_cons_succ]
    refine wpAnyH_take (i := 5) (v := .bool false) op5 (by kernel_rfl) (by kernel_rfl) (by kernel_rfl) (fun _ _ _ h => h) (Or.inl ⟨by rfl, fun W hS => ?_⟩) x54 ?_
    · go_simp
    simp only [Act.put, List.setIfInBounds_toArray, List.set_cons_zero, List.set_cons_succ]
    refine wpAnyH_take (i := 6) (v := .agg #[.int .u64 n0, .int .u64 n1, .int .u64 n2, .int .u64 n3]) op6 (by kernel_rfl) (by kernel_rfl) (by kernel_rfl) (fun _ _ _ h => h) (Or.inl ⟨by rfl, fun W hS => ?_⟩) x54 ?_
    · obtain ⟨c0, c1, c2, c3, _⟩ := hS.f0 (List.Mem.tail _ (List.Mem.tail _ (List.Mem.tail _ (List.Mem.tail _ (List.Mem.head _)))))
      go_simp
    simp only [Act.put, List.setIfInBounds_toArray, List.set_cons_zero, List.set_cons_succ]
    refine wpAnyH_take (i := 7) (v := .agg #[.int .u64 x0, .int .u64 x1, .int .u64 x2, .int .u64 x3]) op7 (by kernel_rfl) (by kernel_rfl) (by kernel_rfl) (fun _ _ _ h => h) (Or.inl ⟨by rfl, fun W hS => ?_⟩) x54 ?_
    · obtain ⟨c0, c1, c2, c3, _⟩ := hS.f0 (List.Mem.tail _ (List.Mem.tail _ (List.Mem.tail _ (List.Mem.head _))))
      go_simp
    simp only [Act.put, List.setIfInBounds_toArray, List.set_cons_zero, List.set_cons_succ]
    refine wpAnyH_take (i := 9) (v := .agg #[.int .u64 d0, .int .u64 d1, .int .u64 d2, .int .u64 d3]) op9 (by kernel_rfl) (by kernel_rfl) (by kernel_rfl) (fun _ _ _ h => h) (Or.inl ⟨by rfl, fun W hS => ?_⟩) x54 ?_
    · obtain ⟨c0, c1, c2, c3, _⟩ := hS.f0 (List.Mem.head _)
      go_simp
    simp only [Act.put, List.setIfInBounds_toArray, List.set_cons_zero, List.set_cons_succ]
    refine wpAnyH_ready (rs := [8]) (by kernel_rfl) (by simp) ?_
    refine AllReadyH.cons op8 (fun K hK => ?_) AllReadyH.nil
    rw [if_pos (by rfl)]
    go_simp
    refine (HSR.out _).mono ?_
    rintro e g55 ⟨rfl, hB⟩
    have x56 : Bx w [(bk42, d0, d1, d2, d3), (bk38, m0, m1, m2, m3), (bk3, p0, p1, p2, p3), (w.heap.size + 1, x0, x1, x2, x3), (w.heap.size, n0, n1, n2, n3)] g55 := x54.past hB
    clear hB x54
    (try go_wp2_with fail)
    refine hK.out _ _ x56 (fun _ => ?_)
    clear hK K
    refine wpAnyH_take (i := 10) (v := .bool false) op10 (by kernel_rfl) (by kernel_rfl) (by kernel_rfl) (fun _ _ _ h => h) (Or.inl ⟨by rfl, fun W hS => ?_⟩) x56 ?_
    · go_simp
    simp only [Act.put, List.setIfInBounds_toArray, List.set_cons_zero, List.set_cons_succ]
    refine wpAnyH_take (i := 11) (v := .bool false) op11 (by kernel_rfl) (by kernel_rfl) (by kernel_rfl) (fun _ _ _ h => h) (Or.inl ⟨by rfl, fun W hS => ?_⟩) x56 ?_
    · go_simp
    simp only [Act.put, List.setIfInBounds_toArray, List.set_cons_zero, List.set_cons_succ]
    refine wpAnyH_done (by kernel_rfl) ?_ _
    have X57 : Hid (Bx w [(bk42, d0, d1, d2, d3), (bk38, m0, m1, m2, m3), (bk3, p0, p1, p2, p3), (w.heap.size + 1, x0, x1, x2, x3), (w.heap.size, n0, n1, n2, n3)] g55) := x56
    clear x56
    go_upto_region 10 with fail
    obtain ⟨k58_3_0, k58_3_1, k58_3_2, k58_3_3, k58_3_4, k58_3_5, k58_3_6, k58_3_7⟩ := X57.out.f0 (List.Mem.tail _ (List.Mem.tail _ (List.Mem.tail _ (List.Mem.head _))))
    go_upto_region 11 with (first | (go_at_call 41; refine (HSG.out _).mono ?_; rintro e g60 ⟨rfl, hB⟩; (have X59 : Hid (Bx w [(bk42, d0, d1, d2, d3), (bk38, m0, m1, m2, m3), (bk3, p0, p1, p2, p3), (w.heap.size + 1, x0, x1, x2, x3), (w.heap.size, n0, n1, n2, n3)] g60) := X57.out.past hB); clear hB X57 k58_3_0 k58_3_1 k58_3_2 k58_3_3 k58_3_4 k58_3_5 k58_3_6 k58_3_7; obtain ⟨k61_3_0, k61_3_1, k61_3_2, k61_3_3, k61_3_4, k61_3_5, k61_3_6, k61_3_7⟩ := X59.out.f0 (List.Mem.tail _ (List.Mem.tail _ (List.Mem.tail _ (List.Mem.head _))))))
    clear k61_3_0 k61_3_1 k61_3_2 k61_3_3 k61_3_4 k61_3_5 k61_3_6 k61_3_7
    refine wp_region_held_drew (S := fun w' => Bx w [(bk42, d0, d1, d2, d3), (bk38, m0, m1, m2, m3), (bk3, p0, p1, p2, p3), (w.heap.size + 1, x0, x1, x2, x3), (w.heap.size, n0, n1, n2, n3)] w') (by kernel_rfl) X59.out.drew (fun hHeld => ?_)
    generalize g60.drew = g62 at hHeld ⊢
    clear X59
    refine wpAnyH_take (i := 0) (v := .agg #[.int .u64 n0, .int .u64 n1, .int .u64 n2, .int .u64 n3]) op0 (by kernel_rfl) (by kernel_rfl) (by kernel_rfl) (fun _ _ _ h => h) (Or.inl ⟨by rfl, fun W hS => ?_⟩) hHeld ?_
    · obtain ⟨c0, c1, c2, c3, _⟩ := hS.f0 (List.Mem.tail _ (List.Mem.tail _ (List.Mem.tail _ (List.Mem.tail _ (List.Mem.head _)))))
      go_simp
    simp only [Act.put, List.setIfInBounds_toArray, List.set_cons_zero, List.set_cons_succ]
    refine wpAnyH_take (i := 1) (v := .agg #[.int .u64 x0, .int .u64 x1, .int .u64 x2, .int .u64 x3]) op1 (by kernel_rfl) (by kernel_rfl) (by kernel_rfl) (fun _ _ _ h => h) (Or.inl ⟨by rfl, fun W hS => ?_⟩) hHeld ?_
    · obtain ⟨c0, c1, c2, c3, _⟩ := hS.f0 (List.Mem.tail _ (List.Mem.tail _ (List.Mem.tail _ (List.Mem.head _))))
      go_simp
    simp only [Act.put, List.setIfInBounds_toArray, List.set_cons_zero, List.set_cons_succ]
    refine wpAnyH_take (i := 3) (v := .agg #[.int .u64 n0, .int .u64 n1, .int .u64 n2, .int .u64 n3]) op3 (by kernel_rfl) (by kernel_rfl) (by kernel_rfl) (fun _ _ _ h => h) (Or.inl ⟨by rfl, fun W hS => ?_⟩) hHeld ?_
    · obtain ⟨c0, c1, c2, c3, _⟩ := hS.f0 (List.Mem.tail _ (List.Mem.tail _ (List.Mem.tail _ (List.Mem.tail _ (List.Mem.head _)))))
      go_simp
    simp only [Act.put, List.setIfInBounds_toArray, List.set_cons_zero, List.set_cons_succ]
    refine wpAnyH_take (i := 4) (v := .agg #[.int .u64 x0, .int .u64 x1, .int .u64 x2, .int .u64 x3]) op4 (by kernel_rfl) (by kernel_rfl) (by kernel_rfl) (fun _ _ _ h => h) (Or.inl ⟨by rfl, fun W hS => ?_⟩) hHeld ?_
    · obtain ⟨c0, c1, c2, c3, _⟩ := hS.f0 (List.Mem.tail _ (List.Mem.tail _ (List.Mem.tail _ (List.Mem.head _))))
      go_simp
    simp only [Act.put, List.setIfInBounds_toArray, List.set_cons_zero, List.set_cons_succ]
    refine wpAnyH_ready (rs := [2]) (by kernel_rfl) (by simp) ?_
    refine AllReadyH.cons op2 (fun K hK => ?_) AllReadyH.nil
    rw [if_pos (by rfl)]
    go_simp
    refine (HSA.out _).mono ?_
    rintro e g63 ⟨rfl, hB⟩
    have x64 : Bx w [(bk42, d0, d1, d2, d3), (bk38, m0, m1, m2, m3), (bk3, p0, p1, p2, p3), (w.heap.size + 1, x0, x1, x2, x3), (w.heap.size, n0, n1, n2, n3)] g63 := hHeld.past hB
    clear hB hHeld
    (try go_wp2_with fail)
    refine hK.out _ _ x64 (fun _ => ?_)
    clear hK K
    refine wpAnyH_ready (rs := [5]) (by kernel_rfl) (by simp) ?_
    refine AllReadyH.cons op5 (fun K hK => ?_) AllReadyH.nil
    rw [if_pos (by rfl)]
    go_simp
    refine (HNX.out _).mono ?_
    rintro e g65 ⟨rfl, hB⟩
    have x66 : Bx w [(bk42, d0, d1, d2, d3), (bk38, m0, m1, m2, m3), (bk3, p0, p1, p2, p3), (w.heap.size + 1, x0, x1, x2, x3), (w.heap.size, n0, n1, n2, n3)] g65 := x64.past hB
    clear hB x64
    (try go_wp2_with fail)
    refine hK.out _ _ x66 (fun _ => ?_)
    clear hK K
    refine wpAnyH_ready (rs := [6]) (by kernel_rfl) (by simp) ?_
    refine AllReadyH.cons op6 (fun K hK => ?_) AllReadyH.nil
    rw [if_pos (by rfl)]
    go_simp
    refine (HSC.out _).mono ?_
    rintro e g67 ⟨rfl, hB⟩
    have x68 : Bx w [(bk42, d0, d1, d2, d3), (bk38, m0, m1, m2, m3), (bk3, p0, p1, p2, p3), (w.heap.size + 1, x0, x1, x2, x3), (w.heap.size, n0, n1, n2, n3)] g67 := x66.past hB
    clear hB x66
    (try go_wp2_with fail)
    refine hK.out _ _ x68 (fun _ => ?_)
    clear hK K
    refine wpAnyH_ready (rs := [7]) (by kernel_rfl) (by simp) ?_
    refine AllReadyH.cons op7 (fun K hK => ?_) AllReadyH.nil
    rw [if_pos (by rfl)]
    go_simp
    refine (HNE.out _).mono ?_
    rintro e g69 ⟨rfl, hB⟩
    have x70 : Bx w [(bk42, d0, d1, d2, d3), (bk38, m0, m1, m2, m3), (bk3, p0, p1, p2, p3), (w.heap.size + 1, x0, x1, x2, x3), (w.heap.size, n0, n1, n2, n3)] g69 := x68.past hB
    clear hB x68
    (try go_wp2_with fail)
    refine hK.out _ _ x70 (fun _ => ?_)
    clear hK K
    refine wpAnyH_take (i := 8) (v := .bool true) op8 (by kernel_rfl) (by kernel_rfl) (by kernel_rfl) (fun _ _ _ h => h) (Or.inl ⟨by rfl, fun W hS => ?_⟩) x70 ?_
    · go_simp
    simp only [Act.put, List.setIfInBounds_toArray, List.set_cons_zero, List.set_cons_succ]
    refine wpAnyH_take (i := 9) (v := .bool true) op9 (by kernel_rfl) (by kernel_rfl) (by kernel_rfl) (fun _ _ _ h => h) (Or.inl ⟨by rfl, fun W hS => ?_⟩) x70 ?_
    · go_simp
    simp only [Act.put, List.setIfInBounds_toArray, List.set_cons_zero, List.set_cons_succ]
    refine wpAnyH_ready (rs := [10]) (by kernel_rfl) (by simp) ?_
    refine AllReadyH.cons op10 (fun K hK => ?_) AllReadyH.nil
    rw [if_pos (by rfl)]
    go_simp
    refine (awake_any _).mono ?_
    rintro e g71 ⟨rfl, hB⟩
    have x72 : Bx w [(bk42, d0, d1, d2, d3), (bk38, m0, m1, m2, m3), (bk3, p0, p1, p2, p3), (w.heap.size + 1, x0, x1, x2, x3), (w.heap.size, n0, n1, n2, n3)] g71 := x70.past hB
    clear hB x70
    (try go_wp2_with fail)
    refine hK.out _ _ x72 (fun _ => ?_)
    clear hK K
    refine wpAnyH_take (i := 11) (v := .bool true) op11 (by kernel_rfl) (by kernel_rfl) (by kernel_rfl) (fun _ _ _ h => h) (Or.inl ⟨by rfl, fun W hS => ?_⟩) x72 ?_
    · go_simp
    simp only [Act.put, List.setIfInBounds_toArray, List.set_cons_zero, List.set_cons_succ]
    refine wpAnyH_take (i := 12) (v := .bool true) op12 (by kernel_rfl) (by kernel_rfl) (by kernel_rfl) (fun _ _ _ h => h) (Or.inl ⟨by rfl, fun W hS => ?_⟩) x72 ?_
    · go_simp
    simp only [Act.put, List.setIfInBounds_toArray, List.set_cons_zero, List.set_cons_succ]
    refine wpAnyH_done (by kernel_rfl) ?_ _
    have X73 : Hid (Bx w [(bk42, d0, d1, d2, d3), (bk38, m0, m1, m2, m3), (bk3, p0, p1, p2, p3), (w.heap.size + 1, x0, x1, x2, x3), (w.heap.size, n0, n1, n2, n3)] g71) := x72
    clear x72
    go_wp2
    go_ret
    exact ⟨rfl, X73.out.bel⟩
end Go.Proofs.Ytpadpmkfhljiiaa
