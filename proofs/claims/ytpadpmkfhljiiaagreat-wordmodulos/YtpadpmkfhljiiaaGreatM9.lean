/- The document's Add, Sub, Mul, Div, Mod, AddMod, MulMod, by the numbers of their rows. -/
import Derived.Test.YtpadpmkfhljiiaaGreatM8
namespace Go.Proofs.YtpadpmkfhljiiaaGreat
open Go.RowKit
set_option maxHeartbeats 4000000 in
set_option maxRecDepth 100000 in
theorem radd_r (a0 a1 a2 a3 b0 b1 b2 b3 p0 p1 p2 p3 : Int) (A B : Nat) (Oa : ∀ W : World, Calls Tryz.prog 79 #[.agg #[.int .u64 a0, .int .u64 a1, .int .u64 a2, .int .u64 a3]] W fun e w' => ∃ v, e = .returned v ∧ RowIs w' v 32 A ∧ Below W.heap.size W w') (Ob : ∀ W : World, Calls Tryz.prog 79 #[.agg #[.int .u64 b0, .int .u64 b1, .int .u64 b2, .int .u64 b3]] W fun e w' => ∃ v, e = .returned v ∧ RowIs w' v 32 B ∧ Below W.heap.size W w') (HPP : IsW (((A + B) : Nat) : Int) p0 p1 p2 p3) (w : World) :
    Calls Tryz.prog 12 #[.agg #[.int .u64 a0, .int .u64 a1, .int .u64 a2, .int .u64 a3], .agg #[.int .u64 b0, .int .u64 b1, .int .u64 b2, .int .u64 b3]] w fun e w' => e = .returned (.agg #[.int .u64 p0, .int .u64 p1, .int .u64 p2, .int .u64 p3]) ∧ Below w.heap.size w w' := by
  have Oa' : Hid (∀ W : World, Calls Tryz.prog 79 #[.agg #[.int .u64 a0, .int .u64 a1, .int .u64 a2, .int .u64 a3]] W fun e w' => ∃ v, e = .returned v ∧ RowIs w' v 32 A ∧ Below W.heap.size W w') := Oa
  have Ob' : Hid (∀ W : World, Calls Tryz.prog 79 #[.agg #[.int .u64 b0, .int .u64 b1, .int .u64 b2, .int .u64 b3]] W fun e w' => ∃ v, e = .returned v ∧ RowIs w' v 32 B ∧ Below W.heap.size W w') := Ob
  have HPP' : Hid (IsW (((A + B) : Nat) : Int) p0 p1 p2 p3) := HPP
  clear Oa Ob HPP
  go_enter Tryz.func12, Tryz.ntmps12
  go_upto_region 1 with fail
  have X1 : Hid (Bw w [(w.heap.size + 1 + 1, 0, 0, 0, 0), (w.heap.size + 1, b0, b1, b2, b3), (w.heap.size, a0, a1, a2, a3)] [] (((w.alloc (.cells #[.int .u64 a0, .int .u64 a1, .int .u64 a2, .int .u64 a3] 24)).alloc (.cells #[.int .u64 b0, .int .u64 b1, .int .u64 b2, .int .u64 b3] 24)).alloc (.cells #[.int .u64 0, .int .u64 0, .int .u64 0, .int .u64 0] 24))) := by
    have h := (((Bx.start w).alloc a0 a1 a2 a3).alloc b0 b1 b2 b3).alloc 0 0 0 0
    (try simp only [World.size_alloc] at h)
    exact Bw.of h
  generalize (((w.alloc (.cells #[.int .u64 a0, .int .u64 a1, .int .u64 a2, .int .u64 a3] 24)).alloc (.cells #[.int .u64 b0, .int .u64 b1, .int .u64 b2, .int .u64 b3] 24)).alloc (.cells #[.int .u64 0, .int .u64 0, .int .u64 0, .int .u64 0] 24)) = g2 at X1 ⊢
  refine wp_region_held_drew (S := fun w' => Bx w [(w.heap.size + 1, b0, b1, b2, b3), (w.heap.size, a0, a1, a2, a3)] w') (by kernel_rfl) (Bx.sub X1.out.bx.drew (l := [(w.heap.size + 1 + 1, 0, 0, 0, 0), (w.heap.size + 1, b0, b1, b2, b3), (w.heap.size, a0, a1, a2, a3)]) (m := [(w.heap.size + 1, b0, b1, b2, b3), (w.heap.size, a0, a1, a2, a3)]) (by intro p hp; simp only [List.mem_cons, List.not_mem_nil, or_false] at hp ⊢; rcases hp with rfl | rfl <;> simp)) (fun _ => ?_)
  have hHeld : Bw w [(w.heap.size + 1 + 1, 0, 0, 0, 0), (w.heap.size + 1, b0, b1, b2, b3), (w.heap.size, a0, a1, a2, a3)] [] g2.drew := ⟨(Bx.sub X1.out.bx.drew (l := [(w.heap.size + 1 + 1, 0, 0, 0, 0), (w.heap.size + 1, b0, b1, b2, b3), (w.heap.size, a0, a1, a2, a3)]) (m := [(w.heap.size + 1 + 1, 0, 0, 0, 0), (w.heap.size + 1, b0, b1, b2, b3), (w.heap.size, a0, a1, a2, a3)]) (by intro p hp; simp only [List.mem_cons, List.not_mem_nil, or_false] at hp ⊢; rcases hp with rfl | rfl | rfl <;> simp)), X1.out.drew.rows⟩
  generalize g2.drew = g3 at hHeld ⊢
  clear X1
  refine wpAnyH_take (i := 0) (v := .agg #[.int .u64 a0, .int .u64 a1, .int .u64 a2, .int .u64 a3]) op0 (by kernel_rfl) (by kernel_rfl) (by kernel_rfl) (fun _ _ _ h => h) (Or.inl ⟨by rfl, fun W hS => ?_⟩) (Bx.sub hHeld.bx (fun p hp => List.Mem.tail _ hp)) ?_
  · obtain ⟨c0, c1, c2, c3, _⟩ := hS.f0 (List.Mem.tail _ (List.Mem.head _))
    go_simp
  simp only [Act.put, List.setIfInBounds_toArray, List.set_cons_zero, List.set_cons_succ]
  refine wpAnyH_take (i := 2) (v := .agg #[.int .u64 b0, .int .u64 b1, .int .u64 b2, .int .u64 b3]) op2 (by kernel_rfl) (by kernel_rfl) (by kernel_rfl) (fun _ _ _ h => h) (Or.inl ⟨by rfl, fun W hS => ?_⟩) (Bx.sub hHeld.bx (fun p hp => List.Mem.tail _ hp)) ?_
  · obtain ⟨c0, c1, c2, c3, _⟩ := hS.f0 (List.Mem.head _)
    go_simp
  simp only [Act.put, List.setIfInBounds_toArray, List.set_cons_zero, List.set_cons_succ]
  refine wpAnyH_ready (rs := [1]) (by kernel_rfl) (by simp) ?_
  refine AllReadyH.cons op1 (fun K hK => ?_) AllReadyH.nil
  rw [if_pos (by rfl)]
  go_simp
  refine (Oa'.out _).mono ?_
  rintro e g6 ⟨x4, rfl, hR5, hB⟩
  have x7 : Bw w [(w.heap.size + 1 + 1, 0, 0, 0, 0), (w.heap.size + 1, b0, b1, b2, b3), (w.heap.size, a0, a1, a2, a3)] [(x4, 32, A)] g6 := ((hHeld.past hB).row hR5)
  clear hB hR5 hHeld
  (try go_wp2_with fail)
  refine hK.out _ _ (Bx.sub x7.bx (fun p hp => List.Mem.tail _ hp)) (fun _ => ?_)
  clear hK K
  refine wpAnyH_ready (rs := [3]) (by kernel_rfl) (by simp) ?_
  refine AllReadyH.cons op3 (fun K hK => ?_) AllReadyH.nil
  rw [if_pos (by rfl)]
  go_simp
  refine (Ob'.out _).mono ?_
  rintro e g10 ⟨x8, rfl, hR9, hB⟩
  have x11 : Bw w [(w.heap.size + 1 + 1, 0, 0, 0, 0), (w.heap.size + 1, b0, b1, b2, b3), (w.heap.size, a0, a1, a2, a3)] [(x8, 32, B), (x4, 32, A)] g10 := ((x7.past hB).row hR9)
  clear hB hR9 x7
  (try go_wp2_with fail)
  refine hK.out _ _ (Bx.sub x11.bx (fun p hp => List.Mem.tail _ hp)) (fun _ => ?_)
  clear hK K
  refine wpAnyH_ready (rs := [4]) (by kernel_rfl) (by simp) ?_
  refine AllReadyH.cons op4 (fun K hK => ?_) AllReadyH.nil
  rw [if_pos (by rfl)]
  go_simp
  refine (ri_plus (Bw.at (v := x4) (n := 32) (N := A) x11 (List.Mem.tail _ (List.Mem.head _))) (Bw.at (v := x8) (n := 32) (N := B) x11 (List.Mem.head _)) 33 (by decide) (by decide)).mono ?_
  rintro e g14 ⟨x12, rfl, hR13, hB⟩
  have x15 : Bw w [(w.heap.size + 1 + 1, 0, 0, 0, 0), (w.heap.size + 1, b0, b1, b2, b3), (w.heap.size, a0, a1, a2, a3)] [(x12, 33, (A + B)), (x8, 32, B), (x4, 32, A)] g14 := ((x11.past hB).row hR13)
  clear hB hR13 x11
  (try go_wp2_with fail)
  refine hK.out _ _ (Bx.sub x15.bx (fun p hp => List.Mem.tail _ hp)) (fun _ => ?_)
  clear hK K
  refine wpAnyH_ready (rs := [5]) (by kernel_rfl) (by simp) ?_
  refine AllReadyH.cons op5 (fun K hK => ?_) AllReadyH.nil
  rw [if_pos (by rfl)]
  go_simp
  refine (ri_word (Bw.at (v := x12) (n := 33) (N := (A + B)) x15 (List.Mem.head _)) HPP'.out).mono ?_
  rintro e g16 ⟨rfl, hB⟩
  have x17 : Bw w [(w.heap.size + 1 + 1, 0, 0, 0, 0), (w.heap.size + 1, b0, b1, b2, b3), (w.heap.size, a0, a1, a2, a3)] [(x12, 33, (A + B)), (x8, 32, B), (x4, 32, A)] g16 := (x15.past hB)
  clear hB  x15
  (try go_wp2_with fail)
  refine hK.out _ _ (Bx.sub x17.bx (fun p hp => List.Mem.tail _ hp)) (fun _ => ?_)
  clear hK K
  refine wpAnyH_ready (rs := [6]) (by kernel_rfl) (by simp) ?_
  refine AllReadyH.cons op6 (fun K hK => ?_) AllReadyH.nil
  rw [if_pos (by rfl)]
  obtain ⟨cc0, cc1, cc2, cc3, ff0, ff1, ff2, ff3⟩ := x17.bx.f0 (List.Mem.head _)
  go_simp
  have x19 : Bw w ((w.heap.size + 1 + 1, p0, p1, p2, p3) :: [(w.heap.size + 1, b0, b1, b2, b3), (w.heap.size, a0, a1, a2, a3)]) [] ((((g16.setCell ⟨w.heap.size + 1 + 1, 0, none⟩ (.int .u64 p0)).setCell ⟨w.heap.size + 1 + 1, 1, none⟩ (.int .u64 p1)).setCell ⟨w.heap.size + 1 + 1, 2, none⟩ (.int .u64 p2)).setCell ⟨w.heap.size + 1 + 1, 3, none⟩ (.int .u64 p3)) := Bw.of (Bx.put x17.bx (by intro p hp; simp only [List.mem_cons, List.not_mem_nil, or_false] at hp; rcases hp with rfl | rfl <;> simp <;> omega) p0 p1 p2 p3)
  refine hK.out _ _ (Bx.sub x19.bx (fun p hp => List.Mem.tail _ hp)) (fun _ => ?_)
  clear hK K cc0 cc1 cc2 cc3 ff0 ff1 ff2 ff3 x17
  generalize ((((g16.setCell ⟨w.heap.size + 1 + 1, 0, none⟩ (.int .u64 p0)).setCell ⟨w.heap.size + 1 + 1, 1, none⟩ (.int .u64 p1)).setCell ⟨w.heap.size + 1 + 1, 2, none⟩ (.int .u64 p2)).setCell ⟨w.heap.size + 1 + 1, 3, none⟩ (.int .u64 p3)) = g18 at x19 ⊢
  (try simp only [Act.put])
  refine wpAnyH_done (by kernel_rfl) ?_ _
  have X20 : Hid (Bw w [(w.heap.size + 1 + 1, p0, p1, p2, p3), (w.heap.size + 1, b0, b1, b2, b3), (w.heap.size, a0, a1, a2, a3)] [] g18) := x19
  clear x19
  go_wp2
  refine bodyPost_ret (v := .agg #[.int .u64 p0, .int .u64 p1, .int .u64 p2, .int .u64 p3]) ?_ rfl ⟨rfl, X20.out.bx.bel⟩
  exact results_c Tryz.results12 _ _ _ ⟨w.heap.size + 1 + 1, 0, none⟩ rfl (loadVar4 (X20.out.bx.box _ (List.Mem.head _)))
set_option maxHeartbeats 4000000 in
set_option maxRecDepth 100000 in
theorem rsub_r (a0 a1 a2 a3 b0 b1 b2 b3 p0 p1 p2 p3 : Int) (A B : Nat) (Oa : ∀ W : World, Calls Tryz.prog 79 #[.agg #[.int .u64 a0, .int .u64 a1, .int .u64 a2, .int .u64 a3]] W fun e w' => ∃ v, e = .returned v ∧ RowIs w' v 32 A ∧ Below W.heap.size W w') (Ob : ∀ W : World, Calls Tryz.prog 79 #[.agg #[.int .u64 b0, .int .u64 b1, .int .u64 b2, .int .u64 b3]] W fun e w' => ∃ v, e = .returned v ∧ RowIs w' v 32 B ∧ Below W.heap.size W w') (HLE : B ≤ (A + (256 ^ 32))) (HPP : IsW ((((A + (256 ^ 32)) - B) : Nat) : Int) p0 p1 p2 p3) (w : World) :
    Calls Tryz.prog 14 #[.agg #[.int .u64 a0, .int .u64 a1, .int .u64 a2, .int .u64 a3], .agg #[.int .u64 b0, .int .u64 b1, .int .u64 b2, .int .u64 b3]] w fun e w' => e = .returned (.agg #[.int .u64 p0, .int .u64 p1, .int .u64 p2, .int .u64 p3]) ∧ Below w.heap.size w w' := by
  have Oa' : Hid (∀ W : World, Calls Tryz.prog 79 #[.agg #[.int .u64 a0, .int .u64 a1, .int .u64 a2, .int .u64 a3]] W fun e w' => ∃ v, e = .returned v ∧ RowIs w' v 32 A ∧ Below W.heap.size W w') := Oa
  have Ob' : Hid (∀ W : World, Calls Tryz.prog 79 #[.agg #[.int .u64 b0, .int .u64 b1, .int .u64 b2, .int .u64 b3]] W fun e w' => ∃ v, e = .returned v ∧ RowIs w' v 32 B ∧ Below W.heap.size W w') := Ob
  have HLE' : Hid (B ≤ (A + (256 ^ 32))) := HLE
  have HPP' : Hid (IsW ((((A + (256 ^ 32)) - B) : Nat) : Int) p0 p1 p2 p3) := HPP
  clear Oa Ob HLE HPP
  go_enter Tryz.func14, Tryz.ntmps14
  go_upto_region 1 with fail
  have X1 : Hid (Bw w [(w.heap.size + 1 + 1, 0, 0, 0, 0), (w.heap.size + 1, b0, b1, b2, b3), (w.heap.size, a0, a1, a2, a3)] [] (((w.alloc (.cells #[.int .u64 a0, .int .u64 a1, .int .u64 a2, .int .u64 a3] 24)).alloc (.cells #[.int .u64 b0, .int .u64 b1, .int .u64 b2, .int .u64 b3] 24)).alloc (.cells #[.int .u64 0, .int .u64 0, .int .u64 0, .int .u64 0] 24))) := by
    have h := (((Bx.start w).alloc a0 a1 a2 a3).alloc b0 b1 b2 b3).alloc 0 0 0 0
    (try simp only [World.size_alloc] at h)
    exact Bw.of h
  generalize (((w.alloc (.cells #[.int .u64 a0, .int .u64 a1, .int .u64 a2, .int .u64 a3] 24)).alloc (.cells #[.int .u64 b0, .int .u64 b1, .int .u64 b2, .int .u64 b3] 24)).alloc (.cells #[.int .u64 0, .int .u64 0, .int .u64 0, .int .u64 0] 24)) = g2 at X1 ⊢
  refine wp_region_held_drew (S := fun w' => Bx w [(w.heap.size + 1, b0, b1, b2, b3), (w.heap.size, a0, a1, a2, a3)] w') (by kernel_rfl) (Bx.sub X1.out.bx.drew (l := [(w.heap.size + 1 + 1, 0, 0, 0, 0), (w.heap.size + 1, b0, b1, b2, b3), (w.heap.size, a0, a1, a2, a3)]) (m := [(w.heap.size + 1, b0, b1, b2, b3), (w.heap.size, a0, a1, a2, a3)]) (by intro p hp; simp only [List.mem_cons, List.not_mem_nil, or_false] at hp ⊢; rcases hp with rfl | rfl <;> simp)) (fun _ => ?_)
  have hHeld : Bw w [(w.heap.size + 1 + 1, 0, 0, 0, 0), (w.heap.size + 1, b0, b1, b2, b3), (w.heap.size, a0, a1, a2, a3)] [] g2.drew := ⟨(Bx.sub X1.out.bx.drew (l := [(w.heap.size + 1 + 1, 0, 0, 0, 0), (w.heap.size + 1, b0, b1, b2, b3), (w.heap.size, a0, a1, a2, a3)]) (m := [(w.heap.size + 1 + 1, 0, 0, 0, 0), (w.heap.size + 1, b0, b1, b2, b3), (w.heap.size, a0, a1, a2, a3)]) (by intro p hp; simp only [List.mem_cons, List.not_mem_nil, or_false] at hp ⊢; rcases hp with rfl | rfl | rfl <;> simp)), X1.out.drew.rows⟩
  generalize g2.drew = g3 at hHeld ⊢
  clear X1
  refine wpAnyH_take (i := 0) (v := .agg #[.int .u64 a0, .int .u64 a1, .int .u64 a2, .int .u64 a3]) op0 (by kernel_rfl) (by kernel_rfl) (by kernel_rfl) (fun _ _ _ h => h) (Or.inl ⟨by rfl, fun W hS => ?_⟩) (Bx.sub hHeld.bx (fun p hp => List.Mem.tail _ hp)) ?_
  · obtain ⟨c0, c1, c2, c3, _⟩ := hS.f0 (List.Mem.tail _ (List.Mem.head _))
    go_simp
  simp only [Act.put, List.setIfInBounds_toArray, List.set_cons_zero, List.set_cons_succ]
  refine wpAnyH_take (i := 4) (v := .agg #[.int .u64 b0, .int .u64 b1, .int .u64 b2, .int .u64 b3]) op4 (by kernel_rfl) (by kernel_rfl) (by kernel_rfl) (fun _ _ _ h => h) (Or.inl ⟨by rfl, fun W hS => ?_⟩) (Bx.sub hHeld.bx (fun p hp => List.Mem.tail _ hp)) ?_
  · obtain ⟨c0, c1, c2, c3, _⟩ := hS.f0 (List.Mem.head _)
    go_simp
  simp only [Act.put, List.setIfInBounds_toArray, List.set_cons_zero, List.set_cons_succ]
  refine wpAnyH_ready (rs := [1]) (by kernel_rfl) (by simp) ?_
  refine AllReadyH.cons op1 (fun K hK => ?_) AllReadyH.nil
  rw [if_pos (by rfl)]
  go_simp
  refine (Oa'.out _).mono ?_
  rintro e g6 ⟨x4, rfl, hR5, hB⟩
  have x7 : Bw w [(w.heap.size + 1 + 1, 0, 0, 0, 0), (w.heap.size + 1, b0, b1, b2, b3), (w.heap.size, a0, a1, a2, a3)] [(x4, 32, A)] g6 := ((hHeld.past hB).row hR5)
  clear hB hR5 hHeld
  (try go_wp2_with fail)
  refine hK.out _ _ (Bx.sub x7.bx (fun p hp => List.Mem.tail _ hp)) (fun _ => ?_)
  clear hK K
  refine wpAnyH_ready (rs := [2]) (by kernel_rfl) (by simp) ?_
  refine AllReadyH.cons op2 (fun K hK => ?_) AllReadyH.nil
  rw [if_pos (by rfl)]
  go_simp
  refine (ri_full _).mono ?_
  rintro e g10 ⟨x8, rfl, hR9, hB⟩
  have x11 : Bw w [(w.heap.size + 1 + 1, 0, 0, 0, 0), (w.heap.size + 1, b0, b1, b2, b3), (w.heap.size, a0, a1, a2, a3)] [(x8, 33, (256 ^ 32)), (x4, 32, A)] g10 := ((x7.past hB).row hR9)
  clear hB hR9 x7
  (try go_wp2_with fail)
  refine hK.out _ _ (Bx.sub x11.bx (fun p hp => List.Mem.tail _ hp)) (fun _ => ?_)
  clear hK K
  refine wpAnyH_ready (rs := [3]) (by kernel_rfl) (by simp) ?_
  refine AllReadyH.cons op3 (fun K hK => ?_) AllReadyH.nil
  rw [if_pos (by rfl)]
  go_simp
  refine (ri_plus (Bw.at (v := x4) (n := 32) (N := A) x11 (List.Mem.tail _ (List.Mem.head _))) (Bw.at (v := x8) (n := 33) (N := (256 ^ 32)) x11 (List.Mem.head _)) 34 (by decide) (by decide)).mono ?_
  rintro e g14 ⟨x12, rfl, hR13, hB⟩
  have x15 : Bw w [(w.heap.size + 1 + 1, 0, 0, 0, 0), (w.heap.size + 1, b0, b1, b2, b3), (w.heap.size, a0, a1, a2, a3)] [(x12, 34, (A + (256 ^ 32))), (x8, 33, (256 ^ 32)), (x4, 32, A)] g14 := ((x11.past hB).row hR13)
  clear hB hR13 x11
  (try go_wp2_with fail)
  refine hK.out _ _ (Bx.sub x15.bx (fun p hp => List.Mem.tail _ hp)) (fun _ => ?_)
  clear hK K
  refine wpAnyH_ready (rs := [5]) (by kernel_rfl) (by simp) ?_
  refine AllReadyH.cons op5 (fun K hK => ?_) AllReadyH.nil
  rw [if_pos (by rfl)]
  go_simp
  refine (Ob'.out _).mono ?_
  rintro e g18 ⟨x16, rfl, hR17, hB⟩
  have x19 : Bw w [(w.heap.size + 1 + 1, 0, 0, 0, 0), (w.heap.size + 1, b0, b1, b2, b3), (w.heap.size, a0, a1, a2, a3)] [(x16, 32, B), (x12, 34, (A + (256 ^ 32))), (x8, 33, (256 ^ 32)), (x4, 32, A)] g18 := ((x15.past hB).row hR17)
  clear hB hR17 x15
  (try go_wp2_with fail)
  refine hK.out _ _ (Bx.sub x19.bx (fun p hp => List.Mem.tail _ hp)) (fun _ => ?_)
  clear hK K
  refine wpAnyH_ready (rs := [6]) (by kernel_rfl) (by simp) ?_
  refine AllReadyH.cons op6 (fun K hK => ?_) AllReadyH.nil
  rw [if_pos (by rfl)]
  go_simp
  refine (ri_minus (Bw.at (v := x12) (n := 34) (N := (A + (256 ^ 32))) x19 (List.Mem.tail _ (List.Mem.head _))) (Bw.at (v := x16) (n := 32) (N := B) x19 (List.Mem.head _)) HLE'.out 34 (by decide) (by decide)).mono ?_
  rintro e g22 ⟨x20, rfl, hR21, hB⟩
  have x23 : Bw w [(w.heap.size + 1 + 1, 0, 0, 0, 0), (w.heap.size + 1, b0, b1, b2, b3), (w.heap.size, a0, a1, a2, a3)] [(x20, 34, ((A + (256 ^ 32)) - B)), (x16, 32, B), (x12, 34, (A + (256 ^ 32))), (x8, 33, (256 ^ 32)), (x4, 32, A)] g22 := ((x19.past hB).row hR21)
  clear hB hR21 x19
  (try go_wp2_with fail)
  refine hK.out _ _ (Bx.sub x23.bx (fun p hp => List.Mem.tail _ hp)) (fun _ => ?_)
  clear hK K
  refine wpAnyH_ready (rs := [7]) (by kernel_rfl) (by simp) ?_
  refine AllReadyH.cons op7 (fun K hK => ?_) AllReadyH.nil
  rw [if_pos (by rfl)]
  go_simp
  refine (ri_word (Bw.at (v := x20) (n := 34) (N := ((A + (256 ^ 32)) - B)) x23 (List.Mem.head _)) HPP'.out).mono ?_
  rintro e g24 ⟨rfl, hB⟩
  have x25 : Bw w [(w.heap.size + 1 + 1, 0, 0, 0, 0), (w.heap.size + 1, b0, b1, b2, b3), (w.heap.size, a0, a1, a2, a3)] [(x20, 34, ((A + (256 ^ 32)) - B)), (x16, 32, B), (x12, 34, (A + (256 ^ 32))), (x8, 33, (256 ^ 32)), (x4, 32, A)] g24 := (x23.past hB)
  clear hB  x23
  (try go_wp2_with fail)
  refine hK.out _ _ (Bx.sub x25.bx (fun p hp => List.Mem.tail _ hp)) (fun _ => ?_)
  clear hK K
  refine wpAnyH_ready (rs := [8]) (by kernel_rfl) (by simp) ?_
  refine AllReadyH.cons op8 (fun K hK => ?_) AllReadyH.nil
  rw [if_pos (by rfl)]
  obtain ⟨cc0, cc1, cc2, cc3, ff0, ff1, ff2, ff3⟩ := x25.bx.f0 (List.Mem.head _)
  go_simp
  have x27 : Bw w ((w.heap.size + 1 + 1, p0, p1, p2, p3) :: [(w.heap.size + 1, b0, b1, b2, b3), (w.heap.size, a0, a1, a2, a3)]) [] ((((g24.setCell ⟨w.heap.size + 1 + 1, 0, none⟩ (.int .u64 p0)).setCell ⟨w.heap.size + 1 + 1, 1, none⟩ (.int .u64 p1)).setCell ⟨w.heap.size + 1 + 1, 2, none⟩ (.int .u64 p2)).setCell ⟨w.heap.size + 1 + 1, 3, none⟩ (.int .u64 p3)) := Bw.of (Bx.put x25.bx (by intro p hp; simp only [List.mem_cons, List.not_mem_nil, or_false] at hp; rcases hp with rfl | rfl <;> simp <;> omega) p0 p1 p2 p3)
  refine hK.out _ _ (Bx.sub x27.bx (fun p hp => List.Mem.tail _ hp)) (fun _ => ?_)
  clear hK K cc0 cc1 cc2 cc3 ff0 ff1 ff2 ff3 x25
  generalize ((((g24.setCell ⟨w.heap.size + 1 + 1, 0, none⟩ (.int .u64 p0)).setCell ⟨w.heap.size + 1 + 1, 1, none⟩ (.int .u64 p1)).setCell ⟨w.heap.size + 1 + 1, 2, none⟩ (.int .u64 p2)).setCell ⟨w.heap.size + 1 + 1, 3, none⟩ (.int .u64 p3)) = g26 at x27 ⊢
  (try simp only [Act.put])
  refine wpAnyH_done (by kernel_rfl) ?_ _
  have X28 : Hid (Bw w [(w.heap.size + 1 + 1, p0, p1, p2, p3), (w.heap.size + 1, b0, b1, b2, b3), (w.heap.size, a0, a1, a2, a3)] [] g26) := x27
  clear x27
  go_wp2
  refine bodyPost_ret (v := .agg #[.int .u64 p0, .int .u64 p1, .int .u64 p2, .int .u64 p3]) ?_ rfl ⟨rfl, X28.out.bx.bel⟩
  exact results_c Tryz.results14 _ _ _ ⟨w.heap.size + 1 + 1, 0, none⟩ rfl (loadVar4 (X28.out.bx.box _ (List.Mem.head _)))
set_option maxHeartbeats 4000000 in
set_option maxRecDepth 100000 in
theorem rmul_r (a0 a1 a2 a3 b0 b1 b2 b3 p0 p1 p2 p3 : Int) (A B : Nat) (Oa : ∀ W : World, Calls Tryz.prog 79 #[.agg #[.int .u64 a0, .int .u64 a1, .int .u64 a2, .int .u64 a3]] W fun e w' => ∃ v, e = .returned v ∧ RowIs w' v 32 A ∧ Below W.heap.size W w') (Ob : ∀ W : World, Calls Tryz.prog 79 #[.agg #[.int .u64 b0, .int .u64 b1, .int .u64 b2, .int .u64 b3]] W fun e w' => ∃ v, e = .returned v ∧ RowIs w' v 32 B ∧ Below W.heap.size W w') (HPP : IsW (((A * B) : Nat) : Int) p0 p1 p2 p3) (w : World) :
    Calls Tryz.prog 16 #[.agg #[.int .u64 a0, .int .u64 a1, .int .u64 a2, .int .u64 a3], .agg #[.int .u64 b0, .int .u64 b1, .int .u64 b2, .int .u64 b3]] w fun e w' => e = .returned (.agg #[.int .u64 p0, .int .u64 p1, .int .u64 p2, .int .u64 p3]) ∧ Below w.heap.size w w' := by
  have Oa' : Hid (∀ W : World, Calls Tryz.prog 79 #[.agg #[.int .u64 a0, .int .u64 a1, .int .u64 a2, .int .u64 a3]] W fun e w' => ∃ v, e = .returned v ∧ RowIs w' v 32 A ∧ Below W.heap.size W w') := Oa
  have Ob' : Hid (∀ W : World, Calls Tryz.prog 79 #[.agg #[.int .u64 b0, .int .u64 b1, .int .u64 b2, .int .u64 b3]] W fun e w' => ∃ v, e = .returned v ∧ RowIs w' v 32 B ∧ Below W.heap.size W w') := Ob
  have HPP' : Hid (IsW (((A * B) : Nat) : Int) p0 p1 p2 p3) := HPP
  clear Oa Ob HPP
  go_enter Tryz.func16, Tryz.ntmps16
  go_upto_region 1 with fail
  have X1 : Hid (Bw w [(w.heap.size + 1 + 1, 0, 0, 0, 0), (w.heap.size + 1, b0, b1, b2, b3), (w.heap.size, a0, a1, a2, a3)] [] (((w.alloc (.cells #[.int .u64 a0, .int .u64 a1, .int .u64 a2, .int .u64 a3] 24)).alloc (.cells #[.int .u64 b0, .int .u64 b1, .int .u64 b2, .int .u64 b3] 24)).alloc (.cells #[.int .u64 0, .int .u64 0, .int .u64 0, .int .u64 0] 24))) := by
    have h := (((Bx.start w).alloc a0 a1 a2 a3).alloc b0 b1 b2 b3).alloc 0 0 0 0
    (try simp only [World.size_alloc] at h)
    exact Bw.of h
  generalize (((w.alloc (.cells #[.int .u64 a0, .int .u64 a1, .int .u64 a2, .int .u64 a3] 24)).alloc (.cells #[.int .u64 b0, .int .u64 b1, .int .u64 b2, .int .u64 b3] 24)).alloc (.cells #[.int .u64 0, .int .u64 0, .int .u64 0, .int .u64 0] 24)) = g2 at X1 ⊢
  refine wp_region_held_drew (S := fun w' => Bx w [(w.heap.size + 1, b0, b1, b2, b3), (w.heap.size, a0, a1, a2, a3)] w') (by kernel_rfl) (Bx.sub X1.out.bx.drew (l := [(w.heap.size + 1 + 1, 0, 0, 0, 0), (w.heap.size + 1, b0, b1, b2, b3), (w.heap.size, a0, a1, a2, a3)]) (m := [(w.heap.size + 1, b0, b1, b2, b3), (w.heap.size, a0, a1, a2, a3)]) (by intro p hp; simp only [List.mem_cons, List.not_mem_nil, or_false] at hp ⊢; rcases hp with rfl | rfl <;> simp)) (fun _ => ?_)
  have hHeld : Bw w [(w.heap.size + 1 + 1, 0, 0, 0, 0), (w.heap.size + 1, b0, b1, b2, b3), (w.heap.size, a0, a1, a2, a3)] [] g2.drew := ⟨(Bx.sub X1.out.bx.drew (l := [(w.heap.size + 1 + 1, 0, 0, 0, 0), (w.heap.size + 1, b0, b1, b2, b3), (w.heap.size, a0, a1, a2, a3)]) (m := [(w.heap.size + 1 + 1, 0, 0, 0, 0), (w.heap.size + 1, b0, b1, b2, b3), (w.heap.size, a0, a1, a2, a3)]) (by intro p hp; simp only [List.mem_cons, List.not_mem_nil, or_false] at hp ⊢; rcases hp with rfl | rfl | rfl <;> simp)), X1.out.drew.rows⟩
  generalize g2.drew = g3 at hHeld ⊢
  clear X1
  refine wpAnyH_take (i := 0) (v := .agg #[.int .u64 a0, .int .u64 a1, .int .u64 a2, .int .u64 a3]) op0 (by kernel_rfl) (by kernel_rfl) (by kernel_rfl) (fun _ _ _ h => h) (Or.inl ⟨by rfl, fun W hS => ?_⟩) (Bx.sub hHeld.bx (fun p hp => List.Mem.tail _ hp)) ?_
  · obtain ⟨c0, c1, c2, c3, _⟩ := hS.f0 (List.Mem.tail _ (List.Mem.head _))
    go_simp
  simp only [Act.put, List.setIfInBounds_toArray, List.set_cons_zero, List.set_cons_succ]
  refine wpAnyH_take (i := 2) (v := .agg #[.int .u64 b0, .int .u64 b1, .int .u64 b2, .int .u64 b3]) op2 (by kernel_rfl) (by kernel_rfl) (by kernel_rfl) (fun _ _ _ h => h) (Or.inl ⟨by rfl, fun W hS => ?_⟩) (Bx.sub hHeld.bx (fun p hp => List.Mem.tail _ hp)) ?_
  · obtain ⟨c0, c1, c2, c3, _⟩ := hS.f0 (List.Mem.head _)
    go_simp
  simp only [Act.put, List.setIfInBounds_toArray, List.set_cons_zero, List.set_cons_succ]
  refine wpAnyH_ready (rs := [1]) (by kernel_rfl) (by simp) ?_
  refine AllReadyH.cons op1 (fun K hK => ?_) AllReadyH.nil
  rw [if_pos (by rfl)]
  go_simp
  refine (Oa'.out _).mono ?_
  rintro e g6 ⟨x4, rfl, hR5, hB⟩
  have x7 : Bw w [(w.heap.size + 1 + 1, 0, 0, 0, 0), (w.heap.size + 1, b0, b1, b2, b3), (w.heap.size, a0, a1, a2, a3)] [(x4, 32, A)] g6 := ((hHeld.past hB).row hR5)
  clear hB hR5 hHeld
  (try go_wp2_with fail)
  refine hK.out _ _ (Bx.sub x7.bx (fun p hp => List.Mem.tail _ hp)) (fun _ => ?_)
  clear hK K
  refine wpAnyH_ready (rs := [3]) (by kernel_rfl) (by simp) ?_
  refine AllReadyH.cons op3 (fun K hK => ?_) AllReadyH.nil
  rw [if_pos (by rfl)]
  go_simp
  refine (Ob'.out _).mono ?_
  rintro e g10 ⟨x8, rfl, hR9, hB⟩
  have x11 : Bw w [(w.heap.size + 1 + 1, 0, 0, 0, 0), (w.heap.size + 1, b0, b1, b2, b3), (w.heap.size, a0, a1, a2, a3)] [(x8, 32, B), (x4, 32, A)] g10 := ((x7.past hB).row hR9)
  clear hB hR9 x7
  (try go_wp2_with fail)
  refine hK.out _ _ (Bx.sub x11.bx (fun p hp => List.Mem.tail _ hp)) (fun _ => ?_)
  clear hK K
  refine wpAnyH_ready (rs := [4]) (by kernel_rfl) (by simp) ?_
  refine AllReadyH.cons op4 (fun K hK => ?_) AllReadyH.nil
  rw [if_pos (by rfl)]
  go_simp
  refine (ri_times (Bw.at (v := x4) (n := 32) (N := A) x11 (List.Mem.tail _ (List.Mem.head _))) (Bw.at (v := x8) (n := 32) (N := B) x11 (List.Mem.head _)) 65 (by decide) (by decide)).mono ?_
  rintro e g14 ⟨x12, rfl, hR13, hB⟩
  have x15 : Bw w [(w.heap.size + 1 + 1, 0, 0, 0, 0), (w.heap.size + 1, b0, b1, b2, b3), (w.heap.size, a0, a1, a2, a3)] [(x12, 65, (A * B)), (x8, 32, B), (x4, 32, A)] g14 := ((x11.past hB).row hR13)
  clear hB hR13 x11
  (try go_wp2_with fail)
  refine hK.out _ _ (Bx.sub x15.bx (fun p hp => List.Mem.tail _ hp)) (fun _ => ?_)
  clear hK K
  refine wpAnyH_ready (rs := [5]) (by kernel_rfl) (by simp) ?_
  refine AllReadyH.cons op5 (fun K hK => ?_) AllReadyH.nil
  rw [if_pos (by rfl)]
  go_simp
  refine (ri_word (Bw.at (v := x12) (n := 65) (N := (A * B)) x15 (List.Mem.head _)) HPP'.out).mono ?_
  rintro e g16 ⟨rfl, hB⟩
  have x17 : Bw w [(w.heap.size + 1 + 1, 0, 0, 0, 0), (w.heap.size + 1, b0, b1, b2, b3), (w.heap.size, a0, a1, a2, a3)] [(x12, 65, (A * B)), (x8, 32, B), (x4, 32, A)] g16 := (x15.past hB)
  clear hB  x15
  (try go_wp2_with fail)
  refine hK.out _ _ (Bx.sub x17.bx (fun p hp => List.Mem.tail _ hp)) (fun _ => ?_)
  clear hK K
  refine wpAnyH_ready (rs := [6]) (by kernel_rfl) (by simp) ?_
  refine AllReadyH.cons op6 (fun K hK => ?_) AllReadyH.nil
  rw [if_pos (by rfl)]
  obtain ⟨cc0, cc1, cc2, cc3, ff0, ff1, ff2, ff3⟩ := x17.bx.f0 (List.Mem.head _)
  go_simp
  have x19 : Bw w ((w.heap.size + 1 + 1, p0, p1, p2, p3) :: [(w.heap.size + 1, b0, b1, b2, b3), (w.heap.size, a0, a1, a2, a3)]) [] ((((g16.setCell ⟨w.heap.size + 1 + 1, 0, none⟩ (.int .u64 p0)).setCell ⟨w.heap.size + 1 + 1, 1, none⟩ (.int .u64 p1)).setCell ⟨w.heap.size + 1 + 1, 2, none⟩ (.int .u64 p2)).setCell ⟨w.heap.size + 1 + 1, 3, none⟩ (.int .u64 p3)) := Bw.of (Bx.put x17.bx (by intro p hp; simp only [List.mem_cons, List.not_mem_nil, or_false] at hp; rcases hp with rfl | rfl <;> simp <;> omega) p0 p1 p2 p3)
  refine hK.out _ _ (Bx.sub x19.bx (fun p hp => List.Mem.tail _ hp)) (fun _ => ?_)
  clear hK K cc0 cc1 cc2 cc3 ff0 ff1 ff2 ff3 x17
  generalize ((((g16.setCell ⟨w.heap.size + 1 + 1, 0, none⟩ (.int .u64 p0)).setCell ⟨w.heap.size + 1 + 1, 1, none⟩ (.int .u64 p1)).setCell ⟨w.heap.size + 1 + 1, 2, none⟩ (.int .u64 p2)).setCell ⟨w.heap.size + 1 + 1, 3, none⟩ (.int .u64 p3)) = g18 at x19 ⊢
  (try simp only [Act.put])
  refine wpAnyH_done (by kernel_rfl) ?_ _
  have X20 : Hid (Bw w [(w.heap.size + 1 + 1, p0, p1, p2, p3), (w.heap.size + 1, b0, b1, b2, b3), (w.heap.size, a0, a1, a2, a3)] [] g18) := x19
  clear x19
  go_wp2
  refine bodyPost_ret (v := .agg #[.int .u64 p0, .int .u64 p1, .int .u64 p2, .int .u64 p3]) ?_ rfl ⟨rfl, X20.out.bx.bel⟩
  exact results_c Tryz.results16 _ _ _ ⟨w.heap.size + 1 + 1, 0, none⟩ rfl (loadVar4 (X20.out.bx.box _ (List.Mem.head _)))
set_option maxHeartbeats 4000000 in
set_option maxRecDepth 100000 in
theorem rdiv_0 (a0 a1 a2 a3 b0 b1 b2 b3 : Int) (A B : Nat) (Oa : ∀ W : World, Calls Tryz.prog 79 #[.agg #[.int .u64 a0, .int .u64 a1, .int .u64 a2, .int .u64 a3]] W fun e w' => ∃ v, e = .returned v ∧ RowIs w' v 32 A ∧ Below W.heap.size W w') (Ob : ∀ W : World, Calls Tryz.prog 79 #[.agg #[.int .u64 b0, .int .u64 b1, .int .u64 b2, .int .u64 b3]] W fun e w' => ∃ v, e = .returned v ∧ RowIs w' v 32 B ∧ Below W.heap.size W w') (HNO : decide (B = 0) = true) (w : World) :
    Calls Tryz.prog 18 #[.agg #[.int .u64 a0, .int .u64 a1, .int .u64 a2, .int .u64 a3], .agg #[.int .u64 b0, .int .u64 b1, .int .u64 b2, .int .u64 b3]] w fun e w' => e = .returned (.agg #[.int .u64 0, .int .u64 0, .int .u64 0, .int .u64 0]) ∧ Below w.heap.size w w' := by
  have Oa' : Hid (∀ W : World, Calls Tryz.prog 79 #[.agg #[.int .u64 a0, .int .u64 a1, .int .u64 a2, .int .u64 a3]] W fun e w' => ∃ v, e = .returned v ∧ RowIs w' v 32 A ∧ Below W.heap.size W w') := Oa
  have Ob' : Hid (∀ W : World, Calls Tryz.prog 79 #[.agg #[.int .u64 b0, .int .u64 b1, .int .u64 b2, .int .u64 b3]] W fun e w' => ∃ v, e = .returned v ∧ RowIs w' v 32 B ∧ Below W.heap.size W w') := Ob
  have HNO' : Hid (decide (B = 0) = true) := HNO
  clear Oa Ob HNO
  go_enter Tryz.func18, Tryz.ntmps18
  go_upto_region 1 with fail
  have X1 : Hid (Bw w [(w.heap.size + 1 + 1, 0, 0, 0, 0), (w.heap.size + 1, b0, b1, b2, b3), (w.heap.size, a0, a1, a2, a3)] [] (((w.alloc (.cells #[.int .u64 a0, .int .u64 a1, .int .u64 a2, .int .u64 a3] 24)).alloc (.cells #[.int .u64 b0, .int .u64 b1, .int .u64 b2, .int .u64 b3] 24)).alloc (.cells #[.int .u64 0, .int .u64 0, .int .u64 0, .int .u64 0] 24))) := by
    have h := (((Bx.start w).alloc a0 a1 a2 a3).alloc b0 b1 b2 b3).alloc 0 0 0 0
    (try simp only [World.size_alloc] at h)
    exact Bw.of h
  generalize (((w.alloc (.cells #[.int .u64 a0, .int .u64 a1, .int .u64 a2, .int .u64 a3] 24)).alloc (.cells #[.int .u64 b0, .int .u64 b1, .int .u64 b2, .int .u64 b3] 24)).alloc (.cells #[.int .u64 0, .int .u64 0, .int .u64 0, .int .u64 0] 24)) = g2 at X1 ⊢
  obtain ⟨k3_1_0, k3_1_1, k3_1_2, k3_1_3, k3_1_4, k3_1_5, k3_1_6, k3_1_7⟩ := X1.out.bx.f0 (List.Mem.tail _ (List.Mem.head _))
  go_upto_region 2 with (first | (go_at_call 79; refine (Ob'.out _).mono ?_; rintro e g7 ⟨x4, rfl, hR5, hB⟩; (have X6 : Hid (Bw w [(w.heap.size + 1 + 1, 0, 0, 0, 0), (w.heap.size + 1, b0, b1, b2, b3), (w.heap.size, a0, a1, a2, a3)] [(x4, 32, B)] g7) := ((X1.out.past hB).row hR5)); clear hB hR5 X1 k3_1_0 k3_1_1 k3_1_2 k3_1_3 k3_1_4 k3_1_5 k3_1_6 k3_1_7; obtain ⟨k8_1_0, k8_1_1, k8_1_2, k8_1_3, k8_1_4, k8_1_5, k8_1_6, k8_1_7⟩ := X6.out.bx.f0 (List.Mem.tail _ (List.Mem.head _))))
  clear k8_1_0 k8_1_1 k8_1_2 k8_1_3 k8_1_4 k8_1_5 k8_1_6 k8_1_7
  go_upto_region 3 with (first | (go_at_call 88; refine (ri_none (Bw.at (v := x4) (n := 32) (N := B) X6.out (List.Mem.head _)) true HNO'.out).mono ?_; rintro e g11 ⟨rfl, hB⟩; (have X10 : Hid (Bw w [(w.heap.size + 1 + 1, 0, 0, 0, 0), (w.heap.size + 1, b0, b1, b2, b3), (w.heap.size, a0, a1, a2, a3)] [(x4, 32, B)] g11) := (X6.out.past hB)); clear hB  X6 ))
  obtain ⟨k13_0_0, k13_0_1, k13_0_2, k13_0_3, k13_0_4, k13_0_5, k13_0_6, k13_0_7⟩ := X10.out.bx.f0 (List.Mem.head _)
  go_wp2
  clear k13_0_0 k13_0_1 k13_0_2 k13_0_3 k13_0_4 k13_0_5 k13_0_6 k13_0_7
  have X14 : Hid (Bw w ((w.heap.size + 1 + 1, 0, 0, 0, 0) :: [(w.heap.size + 1, b0, b1, b2, b3), (w.heap.size, a0, a1, a2, a3)]) [] ((((g11.setCell ⟨w.heap.size + 1 + 1, 0, none⟩ (.int .u64 0)).setCell ⟨w.heap.size + 1 + 1, 1, none⟩ (.int .u64 0)).setCell ⟨w.heap.size + 1 + 1, 2, none⟩ (.int .u64 0)).setCell ⟨w.heap.size + 1 + 1, 3, none⟩ (.int .u64 0))) := Bw.of (Bx.put (Bx.sub X10.out.bx (l := [(w.heap.size + 1 + 1, 0, 0, 0, 0), (w.heap.size + 1, b0, b1, b2, b3), (w.heap.size, a0, a1, a2, a3)]) (m := [(w.heap.size + 1 + 1, 0, 0, 0, 0), (w.heap.size + 1, b0, b1, b2, b3), (w.heap.size, a0, a1, a2, a3)]) (by intro p hp; simp only [List.mem_cons, List.not_mem_nil, or_false] at hp ⊢; rcases hp with rfl | rfl | rfl <;> simp)) (by intro p hp; simp only [List.mem_cons, List.not_mem_nil, or_false] at hp; rcases hp with rfl | rfl <;> simp <;> omega) 0 0 0 0)
  generalize ((((g11.setCell ⟨w.heap.size + 1 + 1, 0, none⟩ (.int .u64 0)).setCell ⟨w.heap.size + 1 + 1, 1, none⟩ (.int .u64 0)).setCell ⟨w.heap.size + 1 + 1, 2, none⟩ (.int .u64 0)).setCell ⟨w.heap.size + 1 + 1, 3, none⟩ (.int .u64 0)) = g15 at X14 ⊢
  clear X10
  refine bodyPost_ret (v := .agg #[.int .u64 0, .int .u64 0, .int .u64 0, .int .u64 0]) ?_ rfl ⟨rfl, X14.out.bx.bel⟩
  exact results_c Tryz.results18 _ _ _ ⟨w.heap.size + 1 + 1, 0, none⟩ rfl (loadVar4 (X14.out.bx.box _ (List.Mem.head _)))
set_option maxHeartbeats 4000000 in
set_option maxRecDepth 100000 in
theorem rdiv_r (a0 a1 a2 a3 b0 b1 b2 b3 p0 p1 p2 p3 : Int) (A B : Nat) (Oa : ∀ W : World, Calls Tryz.prog 79 #[.agg #[.int .u64 a0, .int .u64 a1, .int .u64 a2, .int .u64 a3]] W fun e w' => ∃ v, e = .returned v ∧ RowIs w' v 32 A ∧ Below W.heap.size W w') (Ob : ∀ W : World, Calls Tryz.prog 79 #[.agg #[.int .u64 b0, .int .u64 b1, .int .u64 b2, .int .u64 b3]] W fun e w' => ∃ v, e = .returned v ∧ RowIs w' v 32 B ∧ Below W.heap.size W w') (HNO : decide (B = 0) = false) (HPOS : 0 < B) (HPP : IsW (((A / B) : Nat) : Int) p0 p1 p2 p3) (w : World) :
    Calls Tryz.prog 18 #[.agg #[.int .u64 a0, .int .u64 a1, .int .u64 a2, .int .u64 a3], .agg #[.int .u64 b0, .int .u64 b1, .int .u64 b2, .int .u64 b3]] w fun e w' => e = .returned (.agg #[.int .u64 p0, .int .u64 p1, .int .u64 p2, .int .u64 p3]) ∧ Below w.heap.size w w' := by
  have Oa' : Hid (∀ W : World, Calls Tryz.prog 79 #[.agg #[.int .u64 a0, .int .u64 a1, .int .u64 a2, .int .u64 a3]] W fun e w' => ∃ v, e = .returned v ∧ RowIs w' v 32 A ∧ Below W.heap.size W w') := Oa
  have Ob' : Hid (∀ W : World, Calls Tryz.prog 79 #[.agg #[.int .u64 b0, .int .u64 b1, .int .u64 b2, .int .u64 b3]] W fun e w' => ∃ v, e = .returned v ∧ RowIs w' v 32 B ∧ Below W.heap.size W w') := Ob
  have HNO' : Hid (decide (B = 0) = false) := HNO
  have HPOS' : Hid (0 < B) := HPOS
  have HPP' : Hid (IsW (((A / B) : Nat) : Int) p0 p1 p2 p3) := HPP
  clear Oa Ob HNO HPOS HPP
  go_enter Tryz.func18, Tryz.ntmps18
  go_upto_region 1 with fail
  have X1 : Hid (Bw w [(w.heap.size + 1 + 1, 0, 0, 0, 0), (w.heap.size + 1, b0, b1, b2, b3), (w.heap.size, a0, a1, a2, a3)] [] (((w.alloc (.cells #[.int .u64 a0, .int .u64 a1, .int .u64 a2, .int .u64 a3] 24)).alloc (.cells #[.int .u64 b0, .int .u64 b1, .int .u64 b2, .int .u64 b3] 24)).alloc (.cells #[.int .u64 0, .int .u64 0, .int .u64 0, .int .u64 0] 24))) := by
    have h := (((Bx.start w).alloc a0 a1 a2 a3).alloc b0 b1 b2 b3).alloc 0 0 0 0
    (try simp only [World.size_alloc] at h)
    exact Bw.of h
  generalize (((w.alloc (.cells #[.int .u64 a0, .int .u64 a1, .int .u64 a2, .int .u64 a3] 24)).alloc (.cells #[.int .u64 b0, .int .u64 b1, .int .u64 b2, .int .u64 b3] 24)).alloc (.cells #[.int .u64 0, .int .u64 0, .int .u64 0, .int .u64 0] 24)) = g2 at X1 ⊢
  obtain ⟨k3_1_0, k3_1_1, k3_1_2, k3_1_3, k3_1_4, k3_1_5, k3_1_6, k3_1_7⟩ := X1.out.bx.f0 (List.Mem.tail _ (List.Mem.head _))
  go_upto_region 2 with (first | (go_at_call 79; refine (Ob'.out _).mono ?_; rintro e g7 ⟨x4, rfl, hR5, hB⟩; (have X6 : Hid (Bw w [(w.heap.size + 1 + 1, 0, 0, 0, 0), (w.heap.size + 1, b0, b1, b2, b3), (w.heap.size, a0, a1, a2, a3)] [(x4, 32, B)] g7) := ((X1.out.past hB).row hR5)); clear hB hR5 X1 k3_1_0 k3_1_1 k3_1_2 k3_1_3 k3_1_4 k3_1_5 k3_1_6 k3_1_7; obtain ⟨k8_1_0, k8_1_1, k8_1_2, k8_1_3, k8_1_4, k8_1_5, k8_1_6, k8_1_7⟩ := X6.out.bx.f0 (List.Mem.tail _ (List.Mem.head _))))
  clear k8_1_0 k8_1_1 k8_1_2 k8_1_3 k8_1_4 k8_1_5 k8_1_6 k8_1_7
  go_upto_region 4 with (first | (go_at_call 88; refine (ri_none (Bw.at (v := x4) (n := 32) (N := B) X6.out (List.Mem.head _)) false HNO'.out).mono ?_; rintro e g11 ⟨rfl, hB⟩; (have X10 : Hid (Bw w [(w.heap.size + 1 + 1, 0, 0, 0, 0), (w.heap.size + 1, b0, b1, b2, b3), (w.heap.size, a0, a1, a2, a3)] [(x4, 32, B)] g11) := (X6.out.past hB)); clear hB  X6 ))
  obtain ⟨k13_2_0, k13_2_1, k13_2_2, k13_2_3, k13_2_4, k13_2_5, k13_2_6, k13_2_7⟩ := X10.out.bx.f0 (List.Mem.tail _ (List.Mem.tail _ (List.Mem.head _)))
  go_upto_region 5 with (first | (go_at_call 79; refine (Oa'.out _).mono ?_; rintro e g17 ⟨x14, rfl, hR15, hB⟩; (have X16 : Hid (Bw w [(w.heap.size + 1 + 1, 0, 0, 0, 0), (w.heap.size + 1, b0, b1, b2, b3), (w.heap.size, a0, a1, a2, a3)] [(x14, 32, A), (x4, 32, B)] g17) := ((X10.out.past hB).row hR15)); clear hB hR15 X10 k13_2_0 k13_2_1 k13_2_2 k13_2_3 k13_2_4 k13_2_5 k13_2_6 k13_2_7; obtain ⟨k18_2_0, k18_2_1, k18_2_2, k18_2_3, k18_2_4, k18_2_5, k18_2_6, k18_2_7⟩ := X16.out.bx.f0 (List.Mem.tail _ (List.Mem.tail _ (List.Mem.head _)))) | (go_at_call 89; refine (ri_div (Bw.at (v := x14) (n := 32) (N := A) X16.out (List.Mem.head _)) (Bw.at (v := x4) (n := 32) (N := B) X16.out (List.Mem.tail _ (List.Mem.head _))) HPOS'.out 34 (by decide) (by decide) (by decide)).mono ?_; rintro e g24 ⟨x19, x20, rfl, hR21, hR22, hB⟩; (have X23 : Hid (Bw w [(w.heap.size + 1 + 1, 0, 0, 0, 0), (w.heap.size + 1, b0, b1, b2, b3), (w.heap.size, a0, a1, a2, a3)] [(x20, 34, (A % B)), (x19, 32, (A / B)), (x14, 32, A), (x4, 32, B)] g24) := (((X16.out.past hB).row hR21).row hR22)); clear hB hR21 hR22 X16 k18_2_0 k18_2_1 k18_2_2 k18_2_3 k18_2_4 k18_2_5 k18_2_6 k18_2_7; obtain ⟨k25_2_0, k25_2_1, k25_2_2, k25_2_3, k25_2_4, k25_2_5, k25_2_6, k25_2_7⟩ := X23.out.bx.f0 (List.Mem.tail _ (List.Mem.tail _ (List.Mem.head _)))))
  clear k25_2_0 k25_2_1 k25_2_2 k25_2_3 k25_2_4 k25_2_5 k25_2_6 k25_2_7
  obtain ⟨k26_0_0, k26_0_1, k26_0_2, k26_0_3, k26_0_4, k26_0_5, k26_0_6, k26_0_7⟩ := X23.out.bx.f0 (List.Mem.head _)
  go_wp2_with (first | (go_at_call 77; refine (ri_word (Bw.at (v := x19) (n := 32) (N := (A / B)) X23.out (List.Mem.tail _ (List.Mem.head _))) HPP'.out).mono ?_; rintro e g28 ⟨rfl, hB⟩; (have X27 : Hid (Bw w [(w.heap.size + 1 + 1, 0, 0, 0, 0), (w.heap.size + 1, b0, b1, b2, b3), (w.heap.size, a0, a1, a2, a3)] [(x20, 34, (A % B)), (x19, 32, (A / B)), (x14, 32, A), (x4, 32, B)] g28) := (X23.out.past hB)); clear hB  X23 k26_0_0 k26_0_1 k26_0_2 k26_0_3 k26_0_4 k26_0_5 k26_0_6 k26_0_7; obtain ⟨k29_0_0, k29_0_1, k29_0_2, k29_0_3, k29_0_4, k29_0_5, k29_0_6, k29_0_7⟩ := X27.out.bx.f0 (List.Mem.head _)))
  clear k29_0_0 k29_0_1 k29_0_2 k29_0_3 k29_0_4 k29_0_5 k29_0_6 k29_0_7
  have X30 : Hid (Bw w ((w.heap.size + 1 + 1, p0, p1, p2, p3) :: [(w.heap.size + 1, b0, b1, b2, b3), (w.heap.size, a0, a1, a2, a3)]) [] ((((g28.setCell ⟨w.heap.size + 1 + 1, 0, none⟩ (.int .u64 p0)).setCell ⟨w.heap.size + 1 + 1, 1, none⟩ (.int .u64 p1)).setCell ⟨w.heap.size + 1 + 1, 2, none⟩ (.int .u64 p2)).setCell ⟨w.heap.size + 1 + 1, 3, none⟩ (.int .u64 p3))) := Bw.of (Bx.put (Bx.sub X27.out.bx (l := [(w.heap.size + 1 + 1, 0, 0, 0, 0), (w.heap.size + 1, b0, b1, b2, b3), (w.heap.size, a0, a1, a2, a3)]) (m := [(w.heap.size + 1 + 1, 0, 0, 0, 0), (w.heap.size + 1, b0, b1, b2, b3), (w.heap.size, a0, a1, a2, a3)]) (by intro p hp; simp only [List.mem_cons, List.not_mem_nil, or_false] at hp ⊢; rcases hp with rfl | rfl | rfl <;> simp)) (by intro p hp; simp only [List.mem_cons, List.not_mem_nil, or_false] at hp; rcases hp with rfl | rfl <;> simp <;> omega) p0 p1 p2 p3)
  generalize ((((g28.setCell ⟨w.heap.size + 1 + 1, 0, none⟩ (.int .u64 p0)).setCell ⟨w.heap.size + 1 + 1, 1, none⟩ (.int .u64 p1)).setCell ⟨w.heap.size + 1 + 1, 2, none⟩ (.int .u64 p2)).setCell ⟨w.heap.size + 1 + 1, 3, none⟩ (.int .u64 p3)) = g31 at X30 ⊢
  clear X27
  refine bodyPost_ret (v := .agg #[.int .u64 p0, .int .u64 p1, .int .u64 p2, .int .u64 p3]) ?_ rfl ⟨rfl, X30.out.bx.bel⟩
  exact results_c Tryz.results18 _ _ _ ⟨w.heap.size + 1 + 1, 0, none⟩ rfl (loadVar4 (X30.out.bx.box _ (List.Mem.head _)))
set_option maxHeartbeats 4000000 in
set_option maxRecDepth 100000 in
theorem rmod_0 (a0 a1 a2 a3 b0 b1 b2 b3 : Int) (A B : Nat) (Oa : ∀ W : World, Calls Tryz.prog 79 #[.agg #[.int .u64 a0, .int .u64 a1, .int .u64 a2, .int .u64 a3]] W fun e w' => ∃ v, e = .returned v ∧ RowIs w' v 32 A ∧ Below W.heap.size W w') (Ob : ∀ W : World, Calls Tryz.prog 79 #[.agg #[.int .u64 b0, .int .u64 b1, .int .u64 b2, .int .u64 b3]] W fun e w' => ∃ v, e = .returned v ∧ RowIs w' v 32 B ∧ Below W.heap.size W w') (HNO : decide (B = 0) = true) (w : World) :
    Calls Tryz.prog 20 #[.agg #[.int .u64 a0, .int .u64 a1, .int .u64 a2, .int .u64 a3], .agg #[.int .u64 b0, .int .u64 b1, .int .u64 b2, .int .u64 b3]] w fun e w' => e = .returned (.agg #[.int .u64 0, .int .u64 0, .int .u64 0, .int .u64 0]) ∧ Below w.heap.size w w' := by
  have Oa' : Hid (∀ W : World, Calls Tryz.prog 79 #[.agg #[.int .u64 a0, .int .u64 a1, .int .u64 a2, .int .u64 a3]] W fun e w' => ∃ v, e = .returned v ∧ RowIs w' v 32 A ∧ Below W.heap.size W w') := Oa
  have Ob' : Hid (∀ W : World, Calls Tryz.prog 79 #[.agg #[.int .u64 b0, .int .u64 b1, .int .u64 b2, .int .u64 b3]] W fun e w' => ∃ v, e = .returned v ∧ RowIs w' v 32 B ∧ Below W.heap.size W w') := Ob
  have HNO' : Hid (decide (B = 0) = true) := HNO
  clear Oa Ob HNO
  go_enter Tryz.func20, Tryz.ntmps20
  go_upto_region 1 with fail
  have X1 : Hid (Bw w [(w.heap.size + 1 + 1, 0, 0, 0, 0), (w.heap.size + 1, b0, b1, b2, b3), (w.heap.size, a0, a1, a2, a3)] [] (((w.alloc (.cells #[.int .u64 a0, .int .u64 a1, .int .u64 a2, .int .u64 a3] 24)).alloc (.cells #[.int .u64 b0, .int .u64 b1, .int .u64 b2, .int .u64 b3] 24)).alloc (.cells #[.int .u64 0, .int .u64 0, .int .u64 0, .int .u64 0] 24))) := by
    have h := (((Bx.start w).alloc a0 a1 a2 a3).alloc b0 b1 b2 b3).alloc 0 0 0 0
    (try simp only [World.size_alloc] at h)
    exact Bw.of h
  generalize (((w.alloc (.cells #[.int .u64 a0, .int .u64 a1, .int .u64 a2, .int .u64 a3] 24)).alloc (.cells #[.int .u64 b0, .int .u64 b1, .int .u64 b2, .int .u64 b3] 24)).alloc (.cells #[.int .u64 0, .int .u64 0, .int .u64 0, .int .u64 0] 24)) = g2 at X1 ⊢
  obtain ⟨k3_1_0, k3_1_1, k3_1_2, k3_1_3, k3_1_4, k3_1_5, k3_1_6, k3_1_7⟩ := X1.out.bx.f0 (List.Mem.tail _ (List.Mem.head _))
  go_upto_region 2 with (first | (go_at_call 79; refine (Ob'.out _).mono ?_; rintro e g7 ⟨x4, rfl, hR5, hB⟩; (have X6 : Hid (Bw w [(w.heap.size + 1 + 1, 0, 0, 0, 0), (w.heap.size + 1, b0, b1, b2, b3), (w.heap.size, a0, a1, a2, a3)] [(x4, 32, B)] g7) := ((X1.out.past hB).row hR5)); clear hB hR5 X1 k3_1_0 k3_1_1 k3_1_2 k3_1_3 k3_1_4 k3_1_5 k3_1_6 k3_1_7; obtain ⟨k8_1_0, k8_1_1, k8_1_2, k8_1_3, k8_1_4, k8_1_5, k8_1_6, k8_1_7⟩ := X6.out.bx.f0 (List.Mem.tail _ (List.Mem.head _))))
  clear k8_1_0 k8_1_1 k8_1_2 k8_1_3 k8_1_4 k8_1_5 k8_1_6 k8_1_7
  go_upto_region 3 with (first | (go_at_call 88; refine (ri_none (Bw.at (v := x4) (n := 32) (N := B) X6.out (List.Mem.head _)) true HNO'.out).mono ?_; rintro e g11 ⟨rfl, hB⟩; (have X10 : Hid (Bw w [(w.heap.size + 1 + 1, 0, 0, 0, 0), (w.heap.size + 1, b0, b1, b2, b3), (w.heap.size, a0, a1, a2, a3)] [(x4, 32, B)] g11) := (X6.out.past hB)); clear hB  X6 ))
  obtain ⟨k13_0_0, k13_0_1, k13_0_2, k13_0_3, k13_0_4, k13_0_5, k13_0_6, k13_0_7⟩ := X10.out.bx.f0 (List.Mem.head _)
  go_wp2
  clear k13_0_0 k13_0_1 k13_0_2 k13_0_3 k13_0_4 k13_0_5 k13_0_6 k13_0_7
  have X14 : Hid (Bw w ((w.heap.size + 1 + 1, 0, 0, 0, 0) :: [(w.heap.size + 1, b0, b1, b2, b3), (w.heap.size, a0, a1, a2, a3)]) [] ((((g11.setCell ⟨w.heap.size + 1 + 1, 0, none⟩ (.int .u64 0)).setCell ⟨w.heap.size + 1 + 1, 1, none⟩ (.int .u64 0)).setCell ⟨w.heap.size + 1 + 1, 2, none⟩ (.int .u64 0)).setCell ⟨w.heap.size + 1 + 1, 3, none⟩ (.int .u64 0))) := Bw.of (Bx.put (Bx.sub X10.out.bx (l := [(w.heap.size + 1 + 1, 0, 0, 0, 0), (w.heap.size + 1, b0, b1, b2, b3), (w.heap.size, a0, a1, a2, a3)]) (m := [(w.heap.size + 1 + 1, 0, 0, 0, 0), (w.heap.size + 1, b0, b1, b2, b3), (w.heap.size, a0, a1, a2, a3)]) (by intro p hp; simp only [List.mem_cons, List.not_mem_nil, or_false] at hp ⊢; rcases hp with rfl | rfl | rfl <;> simp)) (by intro p hp; simp only [List.mem_cons, List.not_mem_nil, or_false] at hp; rcases hp with rfl | rfl <;> simp <;> omega) 0 0 0 0)
  generalize ((((g11.setCell ⟨w.heap.size + 1 + 1, 0, none⟩ (.int .u64 0)).setCell ⟨w.heap.size + 1 + 1, 1, none⟩ (.int .u64 0)).setCell ⟨w.heap.size + 1 + 1, 2, none⟩ (.int .u64 0)).setCell ⟨w.heap.size + 1 + 1, 3, none⟩ (.int .u64 0)) = g15 at X14 ⊢
  clear X10
  refine bodyPost_ret (v := .agg #[.int .u64 0, .int .u64 0, .int .u64 0, .int .u64 0]) ?_ rfl ⟨rfl, X14.out.bx.bel⟩
  exact results_c Tryz.results20 _ _ _ ⟨w.heap.size + 1 + 1, 0, none⟩ rfl (loadVar4 (X14.out.bx.box _ (List.Mem.head _)))
set_option maxHeartbeats 4000000 in
set_option maxRecDepth 100000 in
theorem rmod_r (a0 a1 a2 a3 b0 b1 b2 b3 p0 p1 p2 p3 : Int) (A B : Nat) (Oa : ∀ W : World, Calls Tryz.prog 79 #[.agg #[.int .u64 a0, .int .u64 a1, .int .u64 a2, .int .u64 a3]] W fun e w' => ∃ v, e = .returned v ∧ RowIs w' v 32 A ∧ Below W.heap.size W w') (Ob : ∀ W : World, Calls Tryz.prog 79 #[.agg #[.int .u64 b0, .int .u64 b1, .int .u64 b2, .int .u64 b3]] W fun e w' => ∃ v, e = .returned v ∧ RowIs w' v 32 B ∧ Below W.heap.size W w') (HNO : decide (B = 0) = false) (HPOS : 0 < B) (HPP : IsW (((A % B) : Nat) : Int) p0 p1 p2 p3) (w : World) :
    Calls Tryz.prog 20 #[.agg #[.int .u64 a0, .int .u64 a1, .int .u64 a2, .int .u64 a3], .agg #[.int .u64 b0, .int .u64 b1, .int .u64 b2, .int .u64 b3]] w fun e w' => e = .returned (.agg #[.int .u64 p0, .int .u64 p1, .int .u64 p2, .int .u64 p3]) ∧ Below w.heap.size w w' := by
  have Oa' : Hid (∀ W : World, Calls Tryz.prog 79 #[.agg #[.int .u64 a0, .int .u64 a1, .int .u64 a2, .int .u64 a3]] W fun e w' => ∃ v, e = .returned v ∧ RowIs w' v 32 A ∧ Below W.heap.size W w') := Oa
  have Ob' : Hid (∀ W : World, Calls Tryz.prog 79 #[.agg #[.int .u64 b0, .int .u64 b1, .int .u64 b2, .int .u64 b3]] W fun e w' => ∃ v, e = .returned v ∧ RowIs w' v 32 B ∧ Below W.heap.size W w') := Ob
  have HNO' : Hid (decide (B = 0) = false) := HNO
  have HPOS' : Hid (0 < B) := HPOS
  have HPP' : Hid (IsW (((A % B) : Nat) : Int) p0 p1 p2 p3) := HPP
  clear Oa Ob HNO HPOS HPP
  go_enter Tryz.func20, Tryz.ntmps20
  go_upto_region 1 with fail
  have X1 : Hid (Bw w [(w.heap.size + 1 + 1, 0, 0, 0, 0), (w.heap.size + 1, b0, b1, b2, b3), (w.heap.size, a0, a1, a2, a3)] [] (((w.alloc (.cells #[.int .u64 a0, .int .u64 a1, .int .u64 a2, .int .u64 a3] 24)).alloc (.cells #[.int .u64 b0, .int .u64 b1, .int .u64 b2, .int .u64 b3] 24)).alloc (.cells #[.int .u64 0, .int .u64 0, .int .u64 0, .int .u64 0] 24))) := by
    have h := (((Bx.start w).alloc a0 a1 a2 a3).alloc b0 b1 b2 b3).alloc 0 0 0 0
    (try simp only [World.size_alloc] at h)
    exact Bw.of h
  generalize (((w.alloc (.cells #[.int .u64 a0, .int .u64 a1, .int .u64 a2, .int .u64 a3] 24)).alloc (.cells #[.int .u64 b0, .int .u64 b1, .int .u64 b2, .int .u64 b3] 24)).alloc (.cells #[.int .u64 0, .int .u64 0, .int .u64 0, .int .u64 0] 24)) = g2 at X1 ⊢
  obtain ⟨k3_1_0, k3_1_1, k3_1_2, k3_1_3, k3_1_4, k3_1_5, k3_1_6, k3_1_7⟩ := X1.out.bx.f0 (List.Mem.tail _ (List.Mem.head _))
  go_upto_region 2 with (first | (go_at_call 79; refine (Ob'.out _).mono ?_; rintro e g7 ⟨x4, rfl, hR5, hB⟩; (have X6 : Hid (Bw w [(w.heap.size + 1 + 1, 0, 0, 0, 0), (w.heap.size + 1, b0, b1, b2, b3), (w.heap.size, a0, a1, a2, a3)] [(x4, 32, B)] g7) := ((X1.out.past hB).row hR5)); clear hB hR5 X1 k3_1_0 k3_1_1 k3_1_2 k3_1_3 k3_1_4 k3_1_5 k3_1_6 k3_1_7; obtain ⟨k8_1_0, k8_1_1, k8_1_2, k8_1_3, k8_1_4, k8_1_5, k8_1_6, k8_1_7⟩ := X6.out.bx.f0 (List.Mem.tail _ (List.Mem.head _))))
  clear k8_1_0 k8_1_1 k8_1_2 k8_1_3 k8_1_4 k8_1_5 k8_1_6 k8_1_7
  go_upto_region 4 with (first | (go_at_call 88; refine (ri_none (Bw.at (v := x4) (n := 32) (N := B) X6.out (List.Mem.head _)) false HNO'.out).mono ?_; rintro e g11 ⟨rfl, hB⟩; (have X10 : Hid (Bw w [(w.heap.size + 1 + 1, 0, 0, 0, 0), (w.heap.size + 1, b0, b1, b2, b3), (w.heap.size, a0, a1, a2, a3)] [(x4, 32, B)] g11) := (X6.out.past hB)); clear hB  X6 ))
  obtain ⟨k13_2_0, k13_2_1, k13_2_2, k13_2_3, k13_2_4, k13_2_5, k13_2_6, k13_2_7⟩ := X10.out.bx.f0 (List.Mem.tail _ (List.Mem.tail _ (List.Mem.head _)))
  go_upto_region 5 with (first | (go_at_call 79; refine (Oa'.out _).mono ?_; rintro e g17 ⟨x14, rfl, hR15, hB⟩; (have X16 : Hid (Bw w [(w.heap.size + 1 + 1, 0, 0, 0, 0), (w.heap.size + 1, b0, b1, b2, b3), (w.heap.size, a0, a1, a2, a3)] [(x14, 32, A), (x4, 32, B)] g17) := ((X10.out.past hB).row hR15)); clear hB hR15 X10 k13_2_0 k13_2_1 k13_2_2 k13_2_3 k13_2_4 k13_2_5 k13_2_6 k13_2_7; obtain ⟨k18_2_0, k18_2_1, k18_2_2, k18_2_3, k18_2_4, k18_2_5, k18_2_6, k18_2_7⟩ := X16.out.bx.f0 (List.Mem.tail _ (List.Mem.tail _ (List.Mem.head _)))) | (go_at_call 89; refine (ri_div (Bw.at (v := x14) (n := 32) (N := A) X16.out (List.Mem.head _)) (Bw.at (v := x4) (n := 32) (N := B) X16.out (List.Mem.tail _ (List.Mem.head _))) HPOS'.out 34 (by decide) (by decide) (by decide)).mono ?_; rintro e g24 ⟨x19, x20, rfl, hR21, hR22, hB⟩; (have X23 : Hid (Bw w [(w.heap.size + 1 + 1, 0, 0, 0, 0), (w.heap.size + 1, b0, b1, b2, b3), (w.heap.size, a0, a1, a2, a3)] [(x20, 34, (A % B)), (x19, 32, (A / B)), (x14, 32, A), (x4, 32, B)] g24) := (((X16.out.past hB).row hR21).row hR22)); clear hB hR21 hR22 X16 k18_2_0 k18_2_1 k18_2_2 k18_2_3 k18_2_4 k18_2_5 k18_2_6 k18_2_7; obtain ⟨k25_2_0, k25_2_1, k25_2_2, k25_2_3, k25_2_4, k25_2_5, k25_2_6, k25_2_7⟩ := X23.out.bx.f0 (List.Mem.tail _ (List.Mem.tail _ (List.Mem.head _)))))
  clear k25_2_0 k25_2_1 k25_2_2 k25_2_3 k25_2_4 k25_2_5 k25_2_6 k25_2_7
  obtain ⟨k26_0_0, k26_0_1, k26_0_2, k26_0_3, k26_0_4, k26_0_5, k26_0_6, k26_0_7⟩ := X23.out.bx.f0 (List.Mem.head _)
  go_wp2_with (first | (go_at_call 77; refine (ri_word (Bw.at (v := x20) (n := 34) (N := (A % B)) X23.out (List.Mem.head _)) HPP'.out).mono ?_; rintro e g28 ⟨rfl, hB⟩; (have X27 : Hid (Bw w [(w.heap.size + 1 + 1, 0, 0, 0, 0), (w.heap.size + 1, b0, b1, b2, b3), (w.heap.size, a0, a1, a2, a3)] [(x20, 34, (A % B)), (x19, 32, (A / B)), (x14, 32, A), (x4, 32, B)] g28) := (X23.out.past hB)); clear hB  X23 k26_0_0 k26_0_1 k26_0_2 k26_0_3 k26_0_4 k26_0_5 k26_0_6 k26_0_7; obtain ⟨k29_0_0, k29_0_1, k29_0_2, k29_0_3, k29_0_4, k29_0_5, k29_0_6, k29_0_7⟩ := X27.out.bx.f0 (List.Mem.head _)))
  clear k29_0_0 k29_0_1 k29_0_2 k29_0_3 k29_0_4 k29_0_5 k29_0_6 k29_0_7
  have X30 : Hid (Bw w ((w.heap.size + 1 + 1, p0, p1, p2, p3) :: [(w.heap.size + 1, b0, b1, b2, b3), (w.heap.size, a0, a1, a2, a3)]) [] ((((g28.setCell ⟨w.heap.size + 1 + 1, 0, none⟩ (.int .u64 p0)).setCell ⟨w.heap.size + 1 + 1, 1, none⟩ (.int .u64 p1)).setCell ⟨w.heap.size + 1 + 1, 2, none⟩ (.int .u64 p2)).setCell ⟨w.heap.size + 1 + 1, 3, none⟩ (.int .u64 p3))) := Bw.of (Bx.put (Bx.sub X27.out.bx (l := [(w.heap.size + 1 + 1, 0, 0, 0, 0), (w.heap.size + 1, b0, b1, b2, b3), (w.heap.size, a0, a1, a2, a3)]) (m := [(w.heap.size + 1 + 1, 0, 0, 0, 0), (w.heap.size + 1, b0, b1, b2, b3), (w.heap.size, a0, a1, a2, a3)]) (by intro p hp; simp only [List.mem_cons, List.not_mem_nil, or_false] at hp ⊢; rcases hp with rfl | rfl | rfl <;> simp)) (by intro p hp; simp only [List.mem_cons, List.not_mem_nil, or_false] at hp; rcases hp with rfl | rfl <;> simp <;> omega) p0 p1 p2 p3)
  generalize ((((g28.setCell ⟨w.heap.size + 1 + 1, 0, none⟩ (.int .u64 p0)).setCell ⟨w.heap.size + 1 + 1, 1, none⟩ (.int .u64 p1)).setCell ⟨w.heap.size + 1 + 1, 2, none⟩ (.int .u64 p2)).setCell ⟨w.heap.size + 1 + 1, 3, none⟩ (.int .u64 p3)) = g31 at X30 ⊢
  clear X27
  refine bodyPost_ret (v := .agg #[.int .u64 p0, .int .u64 p1, .int .u64 p2, .int .u64 p3]) ?_ rfl ⟨rfl, X30.out.bx.bel⟩
  exact results_c Tryz.results20 _ _ _ ⟨w.heap.size + 1 + 1, 0, none⟩ rfl (loadVar4 (X30.out.bx.box _ (List.Mem.head _)))
set_option maxHeartbeats 4000000 in
set_option maxRecDepth 100000 in
theorem raddmod_0 (a0 a1 a2 a3 b0 b1 b2 b3 m0 m1 m2 m3 : Int) (A B M : Nat) (Oa : ∀ W : World, Calls Tryz.prog 79 #[.agg #[.int .u64 a0, .int .u64 a1, .int .u64 a2, .int .u64 a3]] W fun e w' => ∃ v, e = .returned v ∧ RowIs w' v 32 A ∧ Below W.heap.size W w') (Ob : ∀ W : World, Calls Tryz.prog 79 #[.agg #[.int .u64 b0, .int .u64 b1, .int .u64 b2, .int .u64 b3]] W fun e w' => ∃ v, e = .returned v ∧ RowIs w' v 32 B ∧ Below W.heap.size W w') (Om : ∀ W : World, Calls Tryz.prog 79 #[.agg #[.int .u64 m0, .int .u64 m1, .int .u64 m2, .int .u64 m3]] W fun e w' => ∃ v, e = .returned v ∧ RowIs w' v 32 M ∧ Below W.heap.size W w') (HNO : decide (M = 0) = true) (w : World) :
    Calls Tryz.prog 35 #[.agg #[.int .u64 a0, .int .u64 a1, .int .u64 a2, .int .u64 a3], .agg #[.int .u64 b0, .int .u64 b1, .int .u64 b2, .int .u64 b3], .agg #[.int .u64 m0, .int .u64 m1, .int .u64 m2, .int .u64 m3]] w fun e w' => e = .returned (.agg #[.int .u64 0, .int .u64 0, .int .u64 0, .int .u64 0]) ∧ Below w.heap.size w w' := by
  have Oa' : Hid (∀ W : World, Calls Tryz.prog 79 #[.agg #[.int .u64 a0, .int .u64 a1, .int .u64 a2, .int .u64 a3]] W fun e w' => ∃ v, e = .returned v ∧ RowIs w' v 32 A ∧ Below W.heap.size W w') := Oa
  have Ob' : Hid (∀ W : World, Calls Tryz.prog 79 #[.agg #[.int .u64 b0, .int .u64 b1, .int .u64 b2, .int .u64 b3]] W fun e w' => ∃ v, e = .returned v ∧ RowIs w' v 32 B ∧ Below W.heap.size W w') := Ob
  have Om' : Hid (∀ W : World, Calls Tryz.prog 79 #[.agg #[.int .u64 m0, .int .u64 m1, .int .u64 m2, .int .u64 m3]] W fun e w' => ∃ v, e = .returned v ∧ RowIs w' v 32 M ∧ Below W.heap.size W w') := Om
  have HNO' : Hid (decide (M = 0) = true) := HNO
  clear Oa Ob Om HNO
  go_enter Tryz.func35, Tryz.ntmps35
  go_upto_region 1 with fail
  have X1 : Hid (Bw w [(w.heap.size + 1 + 1 + 1, 0, 0, 0, 0), (w.heap.size + 1 + 1, m0, m1, m2, m3), (w.heap.size + 1, b0, b1, b2, b3), (w.heap.size, a0, a1, a2, a3)] [] ((((w.alloc (.cells #[.int .u64 a0, .int .u64 a1, .int .u64 a2, .int .u64 a3] 24)).alloc (.cells #[.int .u64 b0, .int .u64 b1, .int .u64 b2, .int .u64 b3] 24)).alloc (.cells #[.int .u64 m0, .int .u64 m1, .int .u64 m2, .int .u64 m3] 24)).alloc (.cells #[.int .u64 0, .int .u64 0, .int .u64 0, .int .u64 0] 24))) := by
    have h := ((((Bx.start w).alloc a0 a1 a2 a3).alloc b0 b1 b2 b3).alloc m0 m1 m2 m3).alloc 0 0 0 0
    (try simp only [World.size_alloc] at h)
    exact Bw.of h
  generalize ((((w.alloc (.cells #[.int .u64 a0, .int .u64 a1, .int .u64 a2, .int .u64 a3] 24)).alloc (.cells #[.int .u64 b0, .int .u64 b1, .int .u64 b2, .int .u64 b3] 24)).alloc (.cells #[.int .u64 m0, .int .u64 m1, .int .u64 m2, .int .u64 m3] 24)).alloc (.cells #[.int .u64 0, .int .u64 0, .int .u64 0, .int .u64 0] 24)) = g2 at X1 ⊢
  obtain ⟨k3_1_0, k3_1_1, k3_1_2, k3_1_3, k3_1_4, k3_1_5, k3_1_6, k3_1_7⟩ := X1.out.bx.f0 (List.Mem.tail _ (List.Mem.head _))
  go_upto_region 2 with (first | (go_at_call 79; refine (Om'.out _).mono ?_; rintro e g7 ⟨x4, rfl, hR5, hB⟩; (have X6 : Hid (Bw w [(w.heap.size + 1 + 1 + 1, 0, 0, 0, 0), (w.heap.size + 1 + 1, m0, m1, m2, m3), (w.heap.size + 1, b0, b1, b2, b3), (w.heap.size, a0, a1, a2, a3)] [(x4, 32, M)] g7) := ((X1.out.past hB).row hR5)); clear hB hR5 X1 k3_1_0 k3_1_1 k3_1_2 k3_1_3 k3_1_4 k3_1_5 k3_1_6 k3_1_7; obtain ⟨k8_1_0, k8_1_1, k8_1_2, k8_1_3, k8_1_4, k8_1_5, k8_1_6, k8_1_7⟩ := X6.out.bx.f0 (List.Mem.tail _ (List.Mem.head _))))
  clear k8_1_0 k8_1_1 k8_1_2 k8_1_3 k8_1_4 k8_1_5 k8_1_6 k8_1_7
  go_upto_region 3 with (first | (go_at_call 88; refine (ri_none (Bw.at (v := x4) (n := 32) (N := M) X6.out (List.Mem.head _)) true HNO'.out).mono ?_; rintro e g11 ⟨rfl, hB⟩; (have X10 : Hid (Bw w [(w.heap.size + 1 + 1 + 1, 0, 0, 0, 0), (w.heap.size + 1 + 1, m0, m1, m2, m3), (w.heap.size + 1, b0, b1, b2, b3), (w.heap.size, a0, a1, a2, a3)] [(x4, 32, M)] g11) := (X6.out.past hB)); clear hB  X6 ))
  obtain ⟨k13_0_0, k13_0_1, k13_0_2, k13_0_3, k13_0_4, k13_0_5, k13_0_6, k13_0_7⟩ := X10.out.bx.f0 (List.Mem.head _)
  go_wp2
  clear k13_0_0 k13_0_1 k13_0_2 k13_0_3 k13_0_4 k13_0_5 k13_0_6 k13_0_7
  have X14 : Hid (Bw w ((w.heap.size + 1 + 1 + 1, 0, 0, 0, 0) :: [(w.heap.size + 1 + 1, m0, m1, m2, m3), (w.heap.size + 1, b0, b1, b2, b3), (w.heap.size, a0, a1, a2, a3)]) [] ((((g11.setCell ⟨w.heap.size + 1 + 1 + 1, 0, none⟩ (.int .u64 0)).setCell ⟨w.heap.size + 1 + 1 + 1, 1, none⟩ (.int .u64 0)).setCell ⟨w.heap.size + 1 + 1 + 1, 2, none⟩ (.int .u64 0)).setCell ⟨w.heap.size + 1 + 1 + 1, 3, none⟩ (.int .u64 0))) := Bw.of (Bx.put (Bx.sub X10.out.bx (l := [(w.heap.size + 1 + 1 + 1, 0, 0, 0, 0), (w.heap.size + 1 + 1, m0, m1, m2, m3), (w.heap.size + 1, b0, b1, b2, b3), (w.heap.size, a0, a1, a2, a3)]) (m := [(w.heap.size + 1 + 1 + 1, 0, 0, 0, 0), (w.heap.size + 1 + 1, m0, m1, m2, m3), (w.heap.size + 1, b0, b1, b2, b3), (w.heap.size, a0, a1, a2, a3)]) (by intro p hp; simp only [List.mem_cons, List.not_mem_nil, or_false] at hp ⊢; rcases hp with rfl | rfl | rfl | rfl <;> simp)) (by intro p hp; simp only [List.mem_cons, List.not_mem_nil, or_false] at hp; rcases hp with rfl | rfl | rfl <;> simp <;> omega) 0 0 0 0)
  generalize ((((g11.setCell ⟨w.heap.size + 1 + 1 + 1, 0, none⟩ (.int .u64 0)).setCell ⟨w.heap.size + 1 + 1 + 1, 1, none⟩ (.int .u64 0)).setCell ⟨w.heap.size + 1 + 1 + 1, 2, none⟩ (.int .u64 0)).setCell ⟨w.heap.size + 1 + 1 + 1, 3, none⟩ (.int .u64 0)) = g15 at X14 ⊢
  clear X10
  refine bodyPost_ret (v := .agg #[.int .u64 0, .int .u64 0, .int .u64 0, .int .u64 0]) ?_ rfl ⟨rfl, X14.out.bx.bel⟩
  exact results_c Tryz.results35 _ _ _ ⟨w.heap.size + 1 + 1 + 1, 0, none⟩ rfl (loadVar4 (X14.out.bx.box _ (List.Mem.head _)))
set_option maxHeartbeats 4000000 in
set_option maxRecDepth 100000 in
theorem raddmod_r (a0 a1 a2 a3 b0 b1 b2 b3 m0 m1 m2 m3 p0 p1 p2 p3 : Int) (A B M : Nat) (Oa : ∀ W : World, Calls Tryz.prog 79 #[.agg #[.int .u64 a0, .int .u64 a1, .int .u64 a2, .int .u64 a3]] W fun e w' => ∃ v, e = .returned v ∧ RowIs w' v 32 A ∧ Below W.heap.size W w') (Ob : ∀ W : World, Calls Tryz.prog 79 #[.agg #[.int .u64 b0, .int .u64 b1, .int .u64 b2, .int .u64 b3]] W fun e w' => ∃ v, e = .returned v ∧ RowIs w' v 32 B ∧ Below W.heap.size W w') (Om : ∀ W : World, Calls Tryz.prog 79 #[.agg #[.int .u64 m0, .int .u64 m1, .int .u64 m2, .int .u64 m3]] W fun e w' => ∃ v, e = .returned v ∧ RowIs w' v 32 M ∧ Below W.heap.size W w') (HNO : decide (M = 0) = false) (HPOS : 0 < M) (HPP : IsW ((((A + B) % M) : Nat) : Int) p0 p1 p2 p3) (w : World) :
    Calls Tryz.prog 35 #[.agg #[.int .u64 a0, .int .u64 a1, .int .u64 a2, .int .u64 a3], .agg #[.int .u64 b0, .int .u64 b1, .int .u64 b2, .int .u64 b3], .agg #[.int .u64 m0, .int .u64 m1, .int .u64 m2, .int .u64 m3]] w fun e w' => e = .returned (.agg #[.int .u64 p0, .int .u64 p1, .int .u64 p2, .int .u64 p3]) ∧ Below w.heap.size w w' := by
  have Oa' : Hid (∀ W : World, Calls Tryz.prog 79 #[.agg #[.int .u64 a0, .int .u64 a1, .int .u64 a2, .int .u64 a3]] W fun e w' => ∃ v, e = .returned v ∧ RowIs w' v 32 A ∧ Below W.heap.size W w') := Oa
  have Ob' : Hid (∀ W : World, Calls Tryz.prog 79 #[.agg #[.int .u64 b0, .int .u64 b1, .int .u64 b2, .int .u64 b3]] W fun e w' => ∃ v, e = .returned v ∧ RowIs w' v 32 B ∧ Below W.heap.size W w') := Ob
  have Om' : Hid (∀ W : World, Calls Tryz.prog 79 #[.agg #[.int .u64 m0, .int .u64 m1, .int .u64 m2, .int .u64 m3]] W fun e w' => ∃ v, e = .returned v ∧ RowIs w' v 32 M ∧ Below W.heap.size W w') := Om
  have HNO' : Hid (decide (M = 0) = false) := HNO
  have HPOS' : Hid (0 < M) := HPOS
  have HPP' : Hid (IsW ((((A + B) % M) : Nat) : Int) p0 p1 p2 p3) := HPP
  clear Oa Ob Om HNO HPOS HPP
  go_enter Tryz.func35, Tryz.ntmps35
  go_upto_region 1 with fail
  have X1 : Hid (Bw w [(w.heap.size + 1 + 1 + 1, 0, 0, 0, 0), (w.heap.size + 1 + 1, m0, m1, m2, m3), (w.heap.size + 1, b0, b1, b2, b3), (w.heap.size, a0, a1, a2, a3)] [] ((((w.alloc (.cells #[.int .u64 a0, .int .u64 a1, .int .u64 a2, .int .u64 a3] 24)).alloc (.cells #[.int .u64 b0, .int .u64 b1, .int .u64 b2, .int .u64 b3] 24)).alloc (.cells #[.int .u64 m0, .int .u64 m1, .int .u64 m2, .int .u64 m3] 24)).alloc (.cells #[.int .u64 0, .int .u64 0, .int .u64 0, .int .u64 0] 24))) := by
    have h := ((((Bx.start w).alloc a0 a1 a2 a3).alloc b0 b1 b2 b3).alloc m0 m1 m2 m3).alloc 0 0 0 0
    (try simp only [World.size_alloc] at h)
    exact Bw.of h
  generalize ((((w.alloc (.cells #[.int .u64 a0, .int .u64 a1, .int .u64 a2, .int .u64 a3] 24)).alloc (.cells #[.int .u64 b0, .int .u64 b1, .int .u64 b2, .int .u64 b3] 24)).alloc (.cells #[.int .u64 m0, .int .u64 m1, .int .u64 m2, .int .u64 m3] 24)).alloc (.cells #[.int .u64 0, .int .u64 0, .int .u64 0, .int .u64 0] 24)) = g2 at X1 ⊢
  obtain ⟨k3_1_0, k3_1_1, k3_1_2, k3_1_3, k3_1_4, k3_1_5, k3_1_6, k3_1_7⟩ := X1.out.bx.f0 (List.Mem.tail _ (List.Mem.head _))
  go_upto_region 2 with (first | (go_at_call 79; refine (Om'.out _).mono ?_; rintro e g7 ⟨x4, rfl, hR5, hB⟩; (have X6 : Hid (Bw w [(w.heap.size + 1 + 1 + 1, 0, 0, 0, 0), (w.heap.size + 1 + 1, m0, m1, m2, m3), (w.heap.size + 1, b0, b1, b2, b3), (w.heap.size, a0, a1, a2, a3)] [(x4, 32, M)] g7) := ((X1.out.past hB).row hR5)); clear hB hR5 X1 k3_1_0 k3_1_1 k3_1_2 k3_1_3 k3_1_4 k3_1_5 k3_1_6 k3_1_7; obtain ⟨k8_1_0, k8_1_1, k8_1_2, k8_1_3, k8_1_4, k8_1_5, k8_1_6, k8_1_7⟩ := X6.out.bx.f0 (List.Mem.tail _ (List.Mem.head _))))
  clear k8_1_0 k8_1_1 k8_1_2 k8_1_3 k8_1_4 k8_1_5 k8_1_6 k8_1_7
  go_upto_region 4 with (first | (go_at_call 88; refine (ri_none (Bw.at (v := x4) (n := 32) (N := M) X6.out (List.Mem.head _)) false HNO'.out).mono ?_; rintro e g11 ⟨rfl, hB⟩; (have X10 : Hid (Bw w [(w.heap.size + 1 + 1 + 1, 0, 0, 0, 0), (w.heap.size + 1 + 1, m0, m1, m2, m3), (w.heap.size + 1, b0, b1, b2, b3), (w.heap.size, a0, a1, a2, a3)] [(x4, 32, M)] g11) := (X6.out.past hB)); clear hB  X6 ))
  refine wp_region_held_drew (S := fun w' => Bx w [(w.heap.size + 1 + 1 + 1, 0, 0, 0, 0), (w.heap.size + 1 + 1, m0, m1, m2, m3), (w.heap.size + 1, b0, b1, b2, b3), (w.heap.size, a0, a1, a2, a3)] w') (by kernel_rfl) X10.out.bx.drew (fun _ => ?_)
  have hHeld : Bw w [(w.heap.size + 1 + 1 + 1, 0, 0, 0, 0), (w.heap.size + 1 + 1, m0, m1, m2, m3), (w.heap.size + 1, b0, b1, b2, b3), (w.heap.size, a0, a1, a2, a3)] [(x4, 32, M)] g11.drew := X10.out.drew
  generalize g11.drew = g13 at hHeld ⊢
  clear X10
  refine wpAnyH_take (i := 0) (v := .agg #[.int .u64 a0, .int .u64 a1, .int .u64 a2, .int .u64 a3]) op0 (by kernel_rfl) (by kernel_rfl) (by kernel_rfl) (fun _ _ _ h => h) (Or.inl ⟨by rfl, fun W hS => ?_⟩) hHeld.bx ?_
  · obtain ⟨c0, c1, c2, c3, _⟩ := hS.f0 (List.Mem.tail _ (List.Mem.tail _ (List.Mem.tail _ (List.Mem.head _))))
    go_simp
  simp only [Act.put, List.setIfInBounds_toArray, List.set_cons_zero, List.set_cons_succ]
  refine wpAnyH_take (i := 2) (v := .agg #[.int .u64 b0, .int .u64 b1, .int .u64 b2, .int .u64 b3]) op2 (by kernel_rfl) (by kernel_rfl) (by kernel_rfl) (fun _ _ _ h => h) (Or.inl ⟨by rfl, fun W hS => ?_⟩) hHeld.bx ?_
  · obtain ⟨c0, c1, c2, c3, _⟩ := hS.f0 (List.Mem.tail _ (List.Mem.tail _ (List.Mem.head _)))
    go_simp
  simp only [Act.put, List.setIfInBounds_toArray, List.set_cons_zero, List.set_cons_succ]
  refine wpAnyH_take (i := 5) (v := x4) op5 (by kernel_rfl) (by kernel_rfl) (by kernel_rfl) (fun _ _ _ h => h) (Or.inl ⟨by rfl, fun W hS => ?_⟩) hHeld.bx ?_
  · go_simp
  simp only [Act.put, List.setIfInBounds_toArray, List.set_cons_zero, List.set_cons_succ]
  refine wpAnyH_ready (rs := [1]) (by kernel_rfl) (by simp) ?_
  refine AllReadyH.cons op1 (fun K hK => ?_) AllReadyH.nil
  rw [if_pos (by rfl)]
  go_simp
  refine (Oa'.out _).mono ?_
  rintro e g16 ⟨x14, rfl, hR15, hB⟩
  have x17 : Bw w [(w.heap.size + 1 + 1 + 1, 0, 0, 0, 0), (w.heap.size + 1 + 1, m0, m1, m2, m3), (w.heap.size + 1, b0, b1, b2, b3), (w.heap.size, a0, a1, a2, a3)] [(x14, 32, A), (x4, 32, M)] g16 := ((hHeld.past hB).row hR15)
  clear hB hR15 hHeld
  (try go_wp2_with fail)
  refine hK.out _ _ x17.bx (fun _ => ?_)
  clear hK K
  refine wpAnyH_ready (rs := [3]) (by kernel_rfl) (by simp) ?_
  refine AllReadyH.cons op3 (fun K hK => ?_) AllReadyH.nil
  rw [if_pos (by rfl)]
  go_simp
  refine (Ob'.out _).mono ?_
  rintro e g20 ⟨x18, rfl, hR19, hB⟩
  have x21 : Bw w [(w.heap.size + 1 + 1 + 1, 0, 0, 0, 0), (w.heap.size + 1 + 1, m0, m1, m2, m3), (w.heap.size + 1, b0, b1, b2, b3), (w.heap.size, a0, a1, a2, a3)] [(x18, 32, B), (x14, 32, A), (x4, 32, M)] g20 := ((x17.past hB).row hR19)
  clear hB hR19 x17
  (try go_wp2_with fail)
  refine hK.out _ _ x21.bx (fun _ => ?_)
  clear hK K
  refine wpAnyH_ready (rs := [4]) (by kernel_rfl) (by simp) ?_
  refine AllReadyH.cons op4 (fun K hK => ?_) AllReadyH.nil
  rw [if_pos (by rfl)]
  go_simp
  refine (ri_plus (Bw.at (v := x14) (n := 32) (N := A) x21 (List.Mem.tail _ (List.Mem.head _))) (Bw.at (v := x18) (n := 32) (N := B) x21 (List.Mem.head _)) 33 (by decide) (by decide)).mono ?_
  rintro e g24 ⟨x22, rfl, hR23, hB⟩
  have x25 : Bw w [(w.heap.size + 1 + 1 + 1, 0, 0, 0, 0), (w.heap.size + 1 + 1, m0, m1, m2, m3), (w.heap.size + 1, b0, b1, b2, b3), (w.heap.size, a0, a1, a2, a3)] [(x22, 33, (A + B)), (x18, 32, B), (x14, 32, A), (x4, 32, M)] g24 := ((x21.past hB).row hR23)
  clear hB hR23 x21
  (try go_wp2_with fail)
  refine hK.out _ _ x25.bx (fun _ => ?_)
  clear hK K
  refine wpAnyH_ready (rs := [6]) (by kernel_rfl) (by simp) ?_
  refine AllReadyH.cons op6 (fun K hK => ?_) AllReadyH.nil
  rw [if_pos (by rfl)]
  go_simp
  refine (ri_div (Bw.at (v := x22) (n := 33) (N := (A + B)) x25 (List.Mem.head _)) (Bw.at (v := x4) (n := 32) (N := M) x25 (List.Mem.tail _ (List.Mem.tail _ (List.Mem.tail _ (List.Mem.head _))))) HPOS'.out 34 (by decide) (by decide) (by decide)).mono ?_
  rintro e g30 ⟨x26, x27, rfl, hR28, hR29, hB⟩
  have x31 : Bw w [(w.heap.size + 1 + 1 + 1, 0, 0, 0, 0), (w.heap.size + 1 + 1, m0, m1, m2, m3), (w.heap.size + 1, b0, b1, b2, b3), (w.heap.size, a0, a1, a2, a3)] [(x27, 34, ((A + B) % M)), (x26, 33, ((A + B) / M)), (x22, 33, (A + B)), (x18, 32, B), (x14, 32, A), (x4, 32, M)] g30 := (((x25.past hB).row hR28).row hR29)
  clear hB hR28 hR29 x25
  (try go_wp2_with fail)
  refine hK.out _ _ x31.bx (fun _ => ?_)
  clear hK K
  refine wpAnyH_take (i := 7) (v := .tuple #[x26, x27]) op7 (by kernel_rfl) (by kernel_rfl) (by kernel_rfl) (fun _ _ _ h => h) (Or.inl ⟨by rfl, fun W hS => ?_⟩) x31.bx ?_
  · go_simp
  simp only [Act.put, List.setIfInBounds_toArray, List.set_cons_zero, List.set_cons_succ]
  refine wpAnyH_take (i := 8) (v := x26) op8 (by kernel_rfl) (by kernel_rfl) (by kernel_rfl) (fun _ _ _ h => h) (Or.inl ⟨by rfl, fun W hS => ?_⟩) x31.bx ?_
  · go_simp
  simp only [Act.put, List.setIfInBounds_toArray, List.set_cons_zero, List.set_cons_succ]
  refine wpAnyH_take (i := 9) (v := x27) op9 (by kernel_rfl) (by kernel_rfl) (by kernel_rfl) (fun _ _ _ h => h) (Or.inl ⟨by rfl, fun W hS => ?_⟩) x31.bx ?_
  · go_simp
  simp only [Act.put, List.setIfInBounds_toArray, List.set_cons_zero, List.set_cons_succ]
  refine wpAnyH_take (i := 10) (v := x26) op10 (by kernel_rfl) (by kernel_rfl) (by kernel_rfl) (fun _ _ _ h => h) (Or.inl ⟨by rfl, fun W hS => ?_⟩) x31.bx ?_
  · go_simp
  simp only [Act.put, List.setIfInBounds_toArray, List.set_cons_zero, List.set_cons_succ]
  refine wpAnyH_take (i := 11) (v := x27) op11 (by kernel_rfl) (by kernel_rfl) (by kernel_rfl) (fun _ _ _ h => h) (Or.inl ⟨by rfl, fun W hS => ?_⟩) x31.bx ?_
  · go_simp
  simp only [Act.put, List.setIfInBounds_toArray, List.set_cons_zero, List.set_cons_succ]
  refine wpAnyH_done (by kernel_rfl) ?_ _
  have X32 : Hid (Bw w [(w.heap.size + 1 + 1 + 1, 0, 0, 0, 0), (w.heap.size + 1 + 1, m0, m1, m2, m3), (w.heap.size + 1, b0, b1, b2, b3), (w.heap.size, a0, a1, a2, a3)] [(x27, 34, ((A + B) % M)), (x26, 33, ((A + B) / M)), (x22, 33, (A + B)), (x18, 32, B), (x14, 32, A), (x4, 32, M)] g30) := x31
  clear x31
  go_upto_region 5 with fail
  obtain ⟨k33_0_0, k33_0_1, k33_0_2, k33_0_3, k33_0_4, k33_0_5, k33_0_6, k33_0_7⟩ := X32.out.bx.f0 (List.Mem.head _)
  go_wp2_with (first | (go_at_call 77; refine (ri_word (Bw.at (v := x27) (n := 34) (N := ((A + B) % M)) X32.out (List.Mem.head _)) HPP'.out).mono ?_; rintro e g35 ⟨rfl, hB⟩; (have X34 : Hid (Bw w [(w.heap.size + 1 + 1 + 1, 0, 0, 0, 0), (w.heap.size + 1 + 1, m0, m1, m2, m3), (w.heap.size + 1, b0, b1, b2, b3), (w.heap.size, a0, a1, a2, a3)] [(x27, 34, ((A + B) % M)), (x26, 33, ((A + B) / M)), (x22, 33, (A + B)), (x18, 32, B), (x14, 32, A), (x4, 32, M)] g35) := (X32.out.past hB)); clear hB  X32 k33_0_0 k33_0_1 k33_0_2 k33_0_3 k33_0_4 k33_0_5 k33_0_6 k33_0_7; obtain ⟨k36_0_0, k36_0_1, k36_0_2, k36_0_3, k36_0_4, k36_0_5, k36_0_6, k36_0_7⟩ := X34.out.bx.f0 (List.Mem.head _)))
  clear k36_0_0 k36_0_1 k36_0_2 k36_0_3 k36_0_4 k36_0_5 k36_0_6 k36_0_7
  have X37 : Hid (Bw w ((w.heap.size + 1 + 1 + 1, p0, p1, p2, p3) :: [(w.heap.size + 1 + 1, m0, m1, m2, m3), (w.heap.size + 1, b0, b1, b2, b3), (w.heap.size, a0, a1, a2, a3)]) [] ((((g35.setCell ⟨w.heap.size + 1 + 1 + 1, 0, none⟩ (.int .u64 p0)).setCell ⟨w.heap.size + 1 + 1 + 1, 1, none⟩ (.int .u64 p1)).setCell ⟨w.heap.size + 1 + 1 + 1, 2, none⟩ (.int .u64 p2)).setCell ⟨w.heap.size + 1 + 1 + 1, 3, none⟩ (.int .u64 p3))) := Bw.of (Bx.put (Bx.sub X34.out.bx (l := [(w.heap.size + 1 + 1 + 1, 0, 0, 0, 0), (w.heap.size + 1 + 1, m0, m1, m2, m3), (w.heap.size + 1, b0, b1, b2, b3), (w.heap.size, a0, a1, a2, a3)]) (m := [(w.heap.size + 1 + 1 + 1, 0, 0, 0, 0), (w.heap.size + 1 + 1, m0, m1, m2, m3), (w.heap.size + 1, b0, b1, b2, b3), (w.heap.size, a0, a1, a2, a3)]) (by intro p hp; simp only [List.mem_cons, List.not_mem_nil, or_false] at hp ⊢; rcases hp with rfl | rfl | rfl | rfl <;> simp)) (by intro p hp; simp only [List.mem_cons, List.not_mem_nil, or_false] at hp; rcases hp with rfl | rfl | rfl <;> simp <;> omega) p0 p1 p2 p3)
  generalize ((((g35.setCell ⟨w.heap.size + 1 + 1 + 1, 0, none⟩ (.int .u64 p0)).setCell ⟨w.heap.size + 1 + 1 + 1, 1, none⟩ (.int .u64 p1)).setCell ⟨w.heap.size + 1 + 1 + 1, 2, none⟩ (.int .u64 p2)).setCell ⟨w.heap.size + 1 + 1 + 1, 3, none⟩ (.int .u64 p3)) = g38 at X37 ⊢
  clear X34
  refine bodyPost_ret (v := .agg #[.int .u64 p0, .int .u64 p1, .int .u64 p2, .int .u64 p3]) ?_ rfl ⟨rfl, X37.out.bx.bel⟩
  exact results_c Tryz.results35 _ _ _ ⟨w.heap.size + 1 + 1 + 1, 0, none⟩ rfl (loadVar4 (X37.out.bx.box _ (List.Mem.head _)))
set_option maxHeartbeats 4000000 in
set_option maxRecDepth 100000 in
theorem rmulmod_0 (a0 a1 a2 a3 b0 b1 b2 b3 m0 m1 m2 m3 : Int) (A B M : Nat) (Oa : ∀ W : World, Calls Tryz.prog 79 #[.agg #[.int .u64 a0, .int .u64 a1, .int .u64 a2, .int .u64 a3]] W fun e w' => ∃ v, e = .returned v ∧ RowIs w' v 32 A ∧ Below W.heap.size W w') (Ob : ∀ W : World, Calls Tryz.prog 79 #[.agg #[.int .u64 b0, .int .u64 b1, .int .u64 b2, .int .u64 b3]] W fun e w' => ∃ v, e = .returned v ∧ RowIs w' v 32 B ∧ Below W.heap.size W w') (Om : ∀ W : World, Calls Tryz.prog 79 #[.agg #[.int .u64 m0, .int .u64 m1, .int .u64 m2, .int .u64 m3]] W fun e w' => ∃ v, e = .returned v ∧ RowIs w' v 32 M ∧ Below W.heap.size W w') (HNO : decide (M = 0) = true) (w : World) :
    Calls Tryz.prog 37 #[.agg #[.int .u64 a0, .int .u64 a1, .int .u64 a2, .int .u64 a3], .agg #[.int .u64 b0, .int .u64 b1, .int .u64 b2, .int .u64 b3], .agg #[.int .u64 m0, .int .u64 m1, .int .u64 m2, .int .u64 m3]] w fun e w' => e = .returned (.agg #[.int .u64 0, .int .u64 0, .int .u64 0, .int .u64 0]) ∧ Below w.heap.size w w' := by
  have Oa' : Hid (∀ W : World, Calls Tryz.prog 79 #[.agg #[.int .u64 a0, .int .u64 a1, .int .u64 a2, .int .u64 a3]] W fun e w' => ∃ v, e = .returned v ∧ RowIs w' v 32 A ∧ Below W.heap.size W w') := Oa
  have Ob' : Hid (∀ W : World, Calls Tryz.prog 79 #[.agg #[.int .u64 b0, .int .u64 b1, .int .u64 b2, .int .u64 b3]] W fun e w' => ∃ v, e = .returned v ∧ RowIs w' v 32 B ∧ Below W.heap.size W w') := Ob
  have Om' : Hid (∀ W : World, Calls Tryz.prog 79 #[.agg #[.int .u64 m0, .int .u64 m1, .int .u64 m2, .int .u64 m3]] W fun e w' => ∃ v, e = .returned v ∧ RowIs w' v 32 M ∧ Below W.heap.size W w') := Om
  have HNO' : Hid (decide (M = 0) = true) := HNO
  clear Oa Ob Om HNO
  go_enter Tryz.func37, Tryz.ntmps37
  go_upto_region 1 with fail
  have X1 : Hid (Bw w [(w.heap.size + 1 + 1 + 1, 0, 0, 0, 0), (w.heap.size + 1 + 1, m0, m1, m2, m3), (w.heap.size + 1, b0, b1, b2, b3), (w.heap.size, a0, a1, a2, a3)] [] ((((w.alloc (.cells #[.int .u64 a0, .int .u64 a1, .int .u64 a2, .int .u64 a3] 24)).alloc (.cells #[.int .u64 b0, .int .u64 b1, .int .u64 b2, .int .u64 b3] 24)).alloc (.cells #[.int .u64 m0, .int .u64 m1, .int .u64 m2, .int .u64 m3] 24)).alloc (.cells #[.int .u64 0, .int .u64 0, .int .u64 0, .int .u64 0] 24))) := by
    have h := ((((Bx.start w).alloc a0 a1 a2 a3).alloc b0 b1 b2 b3).alloc m0 m1 m2 m3).alloc 0 0 0 0
    (try simp only [World.size_alloc] at h)
    exact Bw.of h
  generalize ((((w.alloc (.cells #[.int .u64 a0, .int .u64 a1, .int .u64 a2, .int .u64 a3] 24)).alloc (.cells #[.int .u64 b0, .int .u64 b1, .int .u64 b2, .int .u64 b3] 24)).alloc (.cells #[.int .u64 m0, .int .u64 m1, .int .u64 m2, .int .u64 m3] 24)).alloc (.cells #[.int .u64 0, .int .u64 0, .int .u64 0, .int .u64 0] 24)) = g2 at X1 ⊢
  obtain ⟨k3_1_0, k3_1_1, k3_1_2, k3_1_3, k3_1_4, k3_1_5, k3_1_6, k3_1_7⟩ := X1.out.bx.f0 (List.Mem.tail _ (List.Mem.head _))
  go_upto_region 2 with (first | (go_at_call 79; refine (Om'.out _).mono ?_; rintro e g7 ⟨x4, rfl, hR5, hB⟩; (have X6 : Hid (Bw w [(w.heap.size + 1 + 1 + 1, 0, 0, 0, 0), (w.heap.size + 1 + 1, m0, m1, m2, m3), (w.heap.size + 1, b0, b1, b2, b3), (w.heap.size, a0, a1, a2, a3)] [(x4, 32, M)] g7) := ((X1.out.past hB).row hR5)); clear hB hR5 X1 k3_1_0 k3_1_1 k3_1_2 k3_1_3 k3_1_4 k3_1_5 k3_1_6 k3_1_7; obtain ⟨k8_1_0, k8_1_1, k8_1_2, k8_1_3, k8_1_4, k8_1_5, k8_1_6, k8_1_7⟩ := X6.out.bx.f0 (List.Mem.tail _ (List.Mem.head _))))
  clear k8_1_0 k8_1_1 k8_1_2 k8_1_3 k8_1_4 k8_1_5 k8_1_6 k8_1_7
  go_upto_region 3 with (first | (go_at_call 88; refine (ri_none (Bw.at (v := x4) (n := 32) (N := M) X6.out (List.Mem.head _)) true HNO'.out).mono ?_; rintro e g11 ⟨rfl, hB⟩; (have X10 : Hid (Bw w [(w.heap.size + 1 + 1 + 1, 0, 0, 0, 0), (w.heap.size + 1 + 1, m0, m1, m2, m3), (w.heap.size + 1, b0, b1, b2, b3), (w.heap.size, a0, a1, a2, a3)] [(x4, 32, M)] g11) := (X6.out.past hB)); clear hB  X6 ))
  obtain ⟨k13_0_0, k13_0_1, k13_0_2, k13_0_3, k13_0_4, k13_0_5, k13_0_6, k13_0_7⟩ := X10.out.bx.f0 (List.Mem.head _)
  go_wp2
  clear k13_0_0 k13_0_1 k13_0_2 k13_0_3 k13_0_4 k13_0_5 k13_0_6 k13_0_7
  have X14 : Hid (Bw w ((w.heap.size + 1 + 1 + 1, 0, 0, 0, 0) :: [(w.heap.size + 1 + 1, m0, m1, m2, m3), (w.heap.size + 1, b0, b1, b2, b3), (w.heap.size, a0, a1, a2, a3)]) [] ((((g11.setCell ⟨w.heap.size + 1 + 1 + 1, 0, none⟩ (.int .u64 0)).setCell ⟨w.heap.size + 1 + 1 + 1, 1, none⟩ (.int .u64 0)).setCell ⟨w.heap.size + 1 + 1 + 1, 2, none⟩ (.int .u64 0)).setCell ⟨w.heap.size + 1 + 1 + 1, 3, none⟩ (.int .u64 0))) := Bw.of (Bx.put (Bx.sub X10.out.bx (l := [(w.heap.size + 1 + 1 + 1, 0, 0, 0, 0), (w.heap.size + 1 + 1, m0, m1, m2, m3), (w.heap.size + 1, b0, b1, b2, b3), (w.heap.size, a0, a1, a2, a3)]) (m := [(w.heap.size + 1 + 1 + 1, 0, 0, 0, 0), (w.heap.size + 1 + 1, m0, m1, m2, m3), (w.heap.size + 1, b0, b1, b2, b3), (w.heap.size, a0, a1, a2, a3)]) (by intro p hp; simp only [List.mem_cons, List.not_mem_nil, or_false] at hp ⊢; rcases hp with rfl | rfl | rfl | rfl <;> simp)) (by intro p hp; simp only [List.mem_cons, List.not_mem_nil, or_false] at hp; rcases hp with rfl | rfl | rfl <;> simp <;> omega) 0 0 0 0)
  generalize ((((g11.setCell ⟨w.heap.size + 1 + 1 + 1, 0, none⟩ (.int .u64 0)).setCell ⟨w.heap.size + 1 + 1 + 1, 1, none⟩ (.int .u64 0)).setCell ⟨w.heap.size + 1 + 1 + 1, 2, none⟩ (.int .u64 0)).setCell ⟨w.heap.size + 1 + 1 + 1, 3, none⟩ (.int .u64 0)) = g15 at X14 ⊢
  clear X10
  refine bodyPost_ret (v := .agg #[.int .u64 0, .int .u64 0, .int .u64 0, .int .u64 0]) ?_ rfl ⟨rfl, X14.out.bx.bel⟩
  exact results_c Tryz.results37 _ _ _ ⟨w.heap.size + 1 + 1 + 1, 0, none⟩ rfl (loadVar4 (X14.out.bx.box _ (List.Mem.head _)))
set_option maxHeartbeats 4000000 in
set_option maxRecDepth 100000 in
theorem rmulmod_r (a0 a1 a2 a3 b0 b1 b2 b3 m0 m1 m2 m3 p0 p1 p2 p3 : Int) (A B M : Nat) (Oa : ∀ W : World, Calls Tryz.prog 79 #[.agg #[.int .u64 a0, .int .u64 a1, .int .u64 a2, .int .u64 a3]] W fun e w' => ∃ v, e = .returned v ∧ RowIs w' v 32 A ∧ Below W.heap.size W w') (Ob : ∀ W : World, Calls Tryz.prog 79 #[.agg #[.int .u64 b0, .int .u64 b1, .int .u64 b2, .int .u64 b3]] W fun e w' => ∃ v, e = .returned v ∧ RowIs w' v 32 B ∧ Below W.heap.size W w') (Om : ∀ W : World, Calls Tryz.prog 79 #[.agg #[.int .u64 m0, .int .u64 m1, .int .u64 m2, .int .u64 m3]] W fun e w' => ∃ v, e = .returned v ∧ RowIs w' v 32 M ∧ Below W.heap.size W w') (HNO : decide (M = 0) = false) (HPOS : 0 < M) (HPP : IsW ((((A * B) % M) : Nat) : Int) p0 p1 p2 p3) (w : World) :
    Calls Tryz.prog 37 #[.agg #[.int .u64 a0, .int .u64 a1, .int .u64 a2, .int .u64 a3], .agg #[.int .u64 b0, .int .u64 b1, .int .u64 b2, .int .u64 b3], .agg #[.int .u64 m0, .int .u64 m1, .int .u64 m2, .int .u64 m3]] w fun e w' => e = .returned (.agg #[.int .u64 p0, .int .u64 p1, .int .u64 p2, .int .u64 p3]) ∧ Below w.heap.size w w' := by
  have Oa' : Hid (∀ W : World, Calls Tryz.prog 79 #[.agg #[.int .u64 a0, .int .u64 a1, .int .u64 a2, .int .u64 a3]] W fun e w' => ∃ v, e = .returned v ∧ RowIs w' v 32 A ∧ Below W.heap.size W w') := Oa
  have Ob' : Hid (∀ W : World, Calls Tryz.prog 79 #[.agg #[.int .u64 b0, .int .u64 b1, .int .u64 b2, .int .u64 b3]] W fun e w' => ∃ v, e = .returned v ∧ RowIs w' v 32 B ∧ Below W.heap.size W w') := Ob
  have Om' : Hid (∀ W : World, Calls Tryz.prog 79 #[.agg #[.int .u64 m0, .int .u64 m1, .int .u64 m2, .int .u64 m3]] W fun e w' => ∃ v, e = .returned v ∧ RowIs w' v 32 M ∧ Below W.heap.size W w') := Om
  have HNO' : Hid (decide (M = 0) = false) := HNO
  have HPOS' : Hid (0 < M) := HPOS
  have HPP' : Hid (IsW ((((A * B) % M) : Nat) : Int) p0 p1 p2 p3) := HPP
  clear Oa Ob Om HNO HPOS HPP
  go_enter Tryz.func37, Tryz.ntmps37
  go_upto_region 1 with fail
  have X1 : Hid (Bw w [(w.heap.size + 1 + 1 + 1, 0, 0, 0, 0), (w.heap.size + 1 + 1, m0, m1, m2, m3), (w.heap.size + 1, b0, b1, b2, b3), (w.heap.size, a0, a1, a2, a3)] [] ((((w.alloc (.cells #[.int .u64 a0, .int .u64 a1, .int .u64 a2, .int .u64 a3] 24)).alloc (.cells #[.int .u64 b0, .int .u64 b1, .int .u64 b2, .int .u64 b3] 24)).alloc (.cells #[.int .u64 m0, .int .u64 m1, .int .u64 m2, .int .u64 m3] 24)).alloc (.cells #[.int .u64 0, .int .u64 0, .int .u64 0, .int .u64 0] 24))) := by
    have h := ((((Bx.start w).alloc a0 a1 a2 a3).alloc b0 b1 b2 b3).alloc m0 m1 m2 m3).alloc 0 0 0 0
    (try simp only [World.size_alloc] at h)
    exact Bw.of h
  generalize ((((w.alloc (.cells #[.int .u64 a0, .int .u64 a1, .int .u64 a2, .int .u64 a3] 24)).alloc (.cells #[.int .u64 b0, .int .u64 b1, .int .u64 b2, .int .u64 b3] 24)).alloc (.cells #[.int .u64 m0, .int .u64 m1, .int .u64 m2, .int .u64 m3] 24)).alloc (.cells #[.int .u64 0, .int .u64 0, .int .u64 0, .int .u64 0] 24)) = g2 at X1 ⊢
  obtain ⟨k3_1_0, k3_1_1, k3_1_2, k3_1_3, k3_1_4, k3_1_5, k3_1_6, k3_1_7⟩ := X1.out.bx.f0 (List.Mem.tail _ (List.Mem.head _))
  go_upto_region 2 with (first | (go_at_call 79; refine (Om'.out _).mono ?_; rintro e g7 ⟨x4, rfl, hR5, hB⟩; (have X6 : Hid (Bw w [(w.heap.size + 1 + 1 + 1, 0, 0, 0, 0), (w.heap.size + 1 + 1, m0, m1, m2, m3), (w.heap.size + 1, b0, b1, b2, b3), (w.heap.size, a0, a1, a2, a3)] [(x4, 32, M)] g7) := ((X1.out.past hB).row hR5)); clear hB hR5 X1 k3_1_0 k3_1_1 k3_1_2 k3_1_3 k3_1_4 k3_1_5 k3_1_6 k3_1_7; obtain ⟨k8_1_0, k8_1_1, k8_1_2, k8_1_3, k8_1_4, k8_1_5, k8_1_6, k8_1_7⟩ := X6.out.bx.f0 (List.Mem.tail _ (List.Mem.head _))))
  clear k8_1_0 k8_1_1 k8_1_2 k8_1_3 k8_1_4 k8_1_5 k8_1_6 k8_1_7
  go_upto_region 4 with (first | (go_at_call 88; refine (ri_none (Bw.at (v := x4) (n := 32) (N := M) X6.out (List.Mem.head _)) false HNO'.out).mono ?_; rintro e g11 ⟨rfl, hB⟩; (have X10 : Hid (Bw w [(w.heap.size + 1 + 1 + 1, 0, 0, 0, 0), (w.heap.size + 1 + 1, m0, m1, m2, m3), (w.heap.size + 1, b0, b1, b2, b3), (w.heap.size, a0, a1, a2, a3)] [(x4, 32, M)] g11) := (X6.out.past hB)); clear hB  X6 ))
  refine wp_region_held_drew (S := fun w' => Bx w [(w.heap.size + 1 + 1 + 1, 0, 0, 0, 0), (w.heap.size + 1 + 1, m0, m1, m2, m3), (w.heap.size + 1, b0, b1, b2, b3), (w.heap.size, a0, a1, a2, a3)] w') (by kernel_rfl) X10.out.bx.drew (fun _ => ?_)
  have hHeld : Bw w [(w.heap.size + 1 + 1 + 1, 0, 0, 0, 0), (w.heap.size + 1 + 1, m0, m1, m2, m3), (w.heap.size + 1, b0, b1, b2, b3), (w.heap.size, a0, a1, a2, a3)] [(x4, 32, M)] g11.drew := X10.out.drew
  generalize g11.drew = g13 at hHeld ⊢
  clear X10
  refine wpAnyH_take (i := 0) (v := .agg #[.int .u64 a0, .int .u64 a1, .int .u64 a2, .int .u64 a3]) op0 (by kernel_rfl) (by kernel_rfl) (by kernel_rfl) (fun _ _ _ h => h) (Or.inl ⟨by rfl, fun W hS => ?_⟩) hHeld.bx ?_
  · obtain ⟨c0, c1, c2, c3, _⟩ := hS.f0 (List.Mem.tail _ (List.Mem.tail _ (List.Mem.tail _ (List.Mem.head _))))
    go_simp
  simp only [Act.put, List.setIfInBounds_toArray, List.set_cons_zero, List.set_cons_succ]
  refine wpAnyH_take (i := 2) (v := .agg #[.int .u64 b0, .int .u64 b1, .int .u64 b2, .int .u64 b3]) op2 (by kernel_rfl) (by kernel_rfl) (by kernel_rfl) (fun _ _ _ h => h) (Or.inl ⟨by rfl, fun W hS => ?_⟩) hHeld.bx ?_
  · obtain ⟨c0, c1, c2, c3, _⟩ := hS.f0 (List.Mem.tail _ (List.Mem.tail _ (List.Mem.head _)))
    go_simp
  simp only [Act.put, List.setIfInBounds_toArray, List.set_cons_zero, List.set_cons_succ]
  refine wpAnyH_take (i := 5) (v := x4) op5 (by kernel_rfl) (by kernel_rfl) (by kernel_rfl) (fun _ _ _ h => h) (Or.inl ⟨by rfl, fun W hS => ?_⟩) hHeld.bx ?_
  · go_simp
  simp only [Act.put, List.setIfInBounds_toArray, List.set_cons_zero, List.set_cons_succ]
  refine wpAnyH_ready (rs := [1]) (by kernel_rfl) (by simp) ?_
  refine AllReadyH.cons op1 (fun K hK => ?_) AllReadyH.nil
  rw [if_pos (by rfl)]
  go_simp
  refine (Oa'.out _).mono ?_
  rintro e g16 ⟨x14, rfl, hR15, hB⟩
  have x17 : Bw w [(w.heap.size + 1 + 1 + 1, 0, 0, 0, 0), (w.heap.size + 1 + 1, m0, m1, m2, m3), (w.heap.size + 1, b0, b1, b2, b3), (w.heap.size, a0, a1, a2, a3)] [(x14, 32, A), (x4, 32, M)] g16 := ((hHeld.past hB).row hR15)
  clear hB hR15 hHeld
  (try go_wp2_with fail)
  refine hK.out _ _ x17.bx (fun _ => ?_)
  clear hK K
  refine wpAnyH_ready (rs := [3]) (by kernel_rfl) (by simp) ?_
  refine AllReadyH.cons op3 (fun K hK => ?_) AllReadyH.nil
  rw [if_pos (by rfl)]
  go_simp
  refine (Ob'.out _).mono ?_
  rintro e g20 ⟨x18, rfl, hR19, hB⟩
  have x21 : Bw w [(w.heap.size + 1 + 1 + 1, 0, 0, 0, 0), (w.heap.size + 1 + 1, m0, m1, m2, m3), (w.heap.size + 1, b0, b1, b2, b3), (w.heap.size, a0, a1, a2, a3)] [(x18, 32, B), (x14, 32, A), (x4, 32, M)] g20 := ((x17.past hB).row hR19)
  clear hB hR19 x17
  (try go_wp2_with fail)
  refine hK.out _ _ x21.bx (fun _ => ?_)
  clear hK K
  refine wpAnyH_ready (rs := [4]) (by kernel_rfl) (by simp) ?_
  refine AllReadyH.cons op4 (fun K hK => ?_) AllReadyH.nil
  rw [if_pos (by rfl)]
  go_simp
  refine (ri_times (Bw.at (v := x14) (n := 32) (N := A) x21 (List.Mem.tail _ (List.Mem.head _))) (Bw.at (v := x18) (n := 32) (N := B) x21 (List.Mem.head _)) 65 (by decide) (by decide)).mono ?_
  rintro e g24 ⟨x22, rfl, hR23, hB⟩
  have x25 : Bw w [(w.heap.size + 1 + 1 + 1, 0, 0, 0, 0), (w.heap.size + 1 + 1, m0, m1, m2, m3), (w.heap.size + 1, b0, b1, b2, b3), (w.heap.size, a0, a1, a2, a3)] [(x22, 65, (A * B)), (x18, 32, B), (x14, 32, A), (x4, 32, M)] g24 := ((x21.past hB).row hR23)
  clear hB hR23 x21
  (try go_wp2_with fail)
  refine hK.out _ _ x25.bx (fun _ => ?_)
  clear hK K
  refine wpAnyH_ready (rs := [6]) (by kernel_rfl) (by simp) ?_
  refine AllReadyH.cons op6 (fun K hK => ?_) AllReadyH.nil
  rw [if_pos (by rfl)]
  go_simp
  refine (ri_div (Bw.at (v := x22) (n := 65) (N := (A * B)) x25 (List.Mem.head _)) (Bw.at (v := x4) (n := 32) (N := M) x25 (List.Mem.tail _ (List.Mem.tail _ (List.Mem.tail _ (List.Mem.head _))))) HPOS'.out 34 (by decide) (by decide) (by decide)).mono ?_
  rintro e g30 ⟨x26, x27, rfl, hR28, hR29, hB⟩
  have x31 : Bw w [(w.heap.size + 1 + 1 + 1, 0, 0, 0, 0), (w.heap.size + 1 + 1, m0, m1, m2, m3), (w.heap.size + 1, b0, b1, b2, b3), (w.heap.size, a0, a1, a2, a3)] [(x27, 34, ((A * B) % M)), (x26, 65, ((A * B) / M)), (x22, 65, (A * B)), (x18, 32, B), (x14, 32, A), (x4, 32, M)] g30 := (((x25.past hB).row hR28).row hR29)
  clear hB hR28 hR29 x25
  (try go_wp2_with fail)
  refine hK.out _ _ x31.bx (fun _ => ?_)
  clear hK K
  refine wpAnyH_take (i := 7) (v := .tuple #[x26, x27]) op7 (by kernel_rfl) (by kernel_rfl) (by kernel_rfl) (fun _ _ _ h => h) (Or.inl ⟨by rfl, fun W hS => ?_⟩) x31.bx ?_
  · go_simp
  simp only [Act.put, List.setIfInBounds_toArray, List.set_cons_zero, List.set_cons_succ]
  refine wpAnyH_take (i := 8) (v := x26) op8 (by kernel_rfl) (by kernel_rfl) (by kernel_rfl) (fun _ _ _ h => h) (Or.inl ⟨by rfl, fun W hS => ?_⟩) x31.bx ?_
  · go_simp
  simp only [Act.put, List.setIfInBounds_toArray, List.set_cons_zero, List.set_cons_succ]
  refine wpAnyH_take (i := 9) (v := x27) op9 (by kernel_rfl) (by kernel_rfl) (by kernel_rfl) (fun _ _ _ h => h) (Or.inl ⟨by rfl, fun W hS => ?_⟩) x31.bx ?_
  · go_simp
  simp only [Act.put, List.setIfInBounds_toArray, List.set_cons_zero, List.set_cons_succ]
  refine wpAnyH_take (i := 10) (v := x26) op10 (by kernel_rfl) (by kernel_rfl) (by kernel_rfl) (fun _ _ _ h => h) (Or.inl ⟨by rfl, fun W hS => ?_⟩) x31.bx ?_
  · go_simp
  simp only [Act.put, List.setIfInBounds_toArray, List.set_cons_zero, List.set_cons_succ]
  refine wpAnyH_take (i := 11) (v := x27) op11 (by kernel_rfl) (by kernel_rfl) (by kernel_rfl) (fun _ _ _ h => h) (Or.inl ⟨by rfl, fun W hS => ?_⟩) x31.bx ?_
  · go_simp
  simp only [Act.put, List.setIfInBounds_toArray, List.set_cons_zero, List.set_cons_succ]
  refine wpAnyH_done (by kernel_rfl) ?_ _
  have X32 : Hid (Bw w [(w.heap.size + 1 + 1 + 1, 0, 0, 0, 0), (w.heap.size + 1 + 1, m0, m1, m2, m3), (w.heap.size + 1, b0, b1, b2, b3), (w.heap.size, a0, a1, a2, a3)] [(x27, 34, ((A * B) % M)), (x26, 65, ((A * B) / M)), (x22, 65, (A * B)), (x18, 32, B), (x14, 32, A), (x4, 32, M)] g30) := x31
  clear x31
  go_upto_region 5 with fail
  obtain ⟨k33_0_0, k33_0_1, k33_0_2, k33_0_3, k33_0_4, k33_0_5, k33_0_6, k33_0_7⟩ := X32.out.bx.f0 (List.Mem.head _)
  go_wp2_with (first | (go_at_call 77; refine (ri_word (Bw.at (v := x27) (n := 34) (N := ((A * B) % M)) X32.out (List.Mem.head _)) HPP'.out).mono ?_; rintro e g35 ⟨rfl, hB⟩; (have X34 : Hid (Bw w [(w.heap.size + 1 + 1 + 1, 0, 0, 0, 0), (w.heap.size + 1 + 1, m0, m1, m2, m3), (w.heap.size + 1, b0, b1, b2, b3), (w.heap.size, a0, a1, a2, a3)] [(x27, 34, ((A * B) % M)), (x26, 65, ((A * B) / M)), (x22, 65, (A * B)), (x18, 32, B), (x14, 32, A), (x4, 32, M)] g35) := (X32.out.past hB)); clear hB  X32 k33_0_0 k33_0_1 k33_0_2 k33_0_3 k33_0_4 k33_0_5 k33_0_6 k33_0_7; obtain ⟨k36_0_0, k36_0_1, k36_0_2, k36_0_3, k36_0_4, k36_0_5, k36_0_6, k36_0_7⟩ := X34.out.bx.f0 (List.Mem.head _)))
  clear k36_0_0 k36_0_1 k36_0_2 k36_0_3 k36_0_4 k36_0_5 k36_0_6 k36_0_7
  have X37 : Hid (Bw w ((w.heap.size + 1 + 1 + 1, p0, p1, p2, p3) :: [(w.heap.size + 1 + 1, m0, m1, m2, m3), (w.heap.size + 1, b0, b1, b2, b3), (w.heap.size, a0, a1, a2, a3)]) [] ((((g35.setCell ⟨w.heap.size + 1 + 1 + 1, 0, none⟩ (.int .u64 p0)).setCell ⟨w.heap.size + 1 + 1 + 1, 1, none⟩ (.int .u64 p1)).setCell ⟨w.heap.size + 1 + 1 + 1, 2, none⟩ (.int .u64 p2)).setCell ⟨w.heap.size + 1 + 1 + 1, 3, none⟩ (.int .u64 p3))) := Bw.of (Bx.put (Bx.sub X34.out.bx (l := [(w.heap.size + 1 + 1 + 1, 0, 0, 0, 0), (w.heap.size + 1 + 1, m0, m1, m2, m3), (w.heap.size + 1, b0, b1, b2, b3), (w.heap.size, a0, a1, a2, a3)]) (m := [(w.heap.size + 1 + 1 + 1, 0, 0, 0, 0), (w.heap.size + 1 + 1, m0, m1, m2, m3), (w.heap.size + 1, b0, b1, b2, b3), (w.heap.size, a0, a1, a2, a3)]) (by intro p hp; simp only [List.mem_cons, List.not_mem_nil, or_false] at hp ⊢; rcases hp with rfl | rfl | rfl | rfl <;> simp)) (by intro p hp; simp only [List.mem_cons, List.not_mem_nil, or_false] at hp; rcases hp with rfl | rfl | rfl <;> simp <;> omega) p0 p1 p2 p3)
  generalize ((((g35.setCell ⟨w.heap.size + 1 + 1 + 1, 0, none⟩ (.int .u64 p0)).setCell ⟨w.heap.size + 1 + 1 + 1, 1, none⟩ (.int .u64 p1)).setCell ⟨w.heap.size + 1 + 1 + 1, 2, none⟩ (.int .u64 p2)).setCell ⟨w.heap.size + 1 + 1 + 1, 3, none⟩ (.int .u64 p3)) = g38 at X37 ⊢
  clear X34
  refine bodyPost_ret (v := .agg #[.int .u64 p0, .int .u64 p1, .int .u64 p2, .int .u64 p3]) ?_ rfl ⟨rfl, X37.out.bx.bel⟩
  exact results_c Tryz.results37 _ _ _ ⟨w.heap.size + 1 + 1 + 1, 0, none⟩ rfl (loadVar4 (X37.out.bx.box _ (List.Mem.head _)))
end Go.Proofs.YtpadpmkfhljiiaaGreat
