/- MulMod, its word named ahead. -/
import Derived.Test.YtpadpmkfhljiiaaGreatMp12
namespace Go.Proofs.YtpadpmkfhljiiaaGreat
open Go.RowKit
set_option maxHeartbeats 4000000 in
set_option maxRecDepth 100000 in
theorem mulMod_is (x y z : Int) (a0 a1 a2 a3 b0 b1 b2 b3 c0 c1 c2 c3 p0 p1 p2 p3 : Int) (w : World) (ha : IsW x a0 a1 a2 a3) (hb : IsW y b0 b1 b2 b3) (hc : IsW z c0 c1 c2 c3) (hp : IsW (md ((x % MM) * (y % MM)) (z % MM)) p0 p1 p2 p3) :
    Calls Tryz.prog 36 #[.agg #[.int .u64 a0, .int .u64 a1, .int .u64 a2, .int .u64 a3], .agg #[.int .u64 b0, .int .u64 b1, .int .u64 b2, .int .u64 b3], .agg #[.int .u64 c0, .int .u64 c1, .int .u64 c2, .int .u64 c3]] w fun e w' => e = .returned (.agg #[.int .u64 p0, .int .u64 p1, .int .u64 p2, .int .u64 p3]) ∧ Below w.heap.size w w' := by
  obtain ⟨s0, s1, s2, s3, is⟩ := isW_ex ((x % MM) * (y % MM))
  obtain ⟨t0, t1, t2, t3, it⟩ := isW_ex ((x % MM) * (y % MM) / MM)
  have hm := MM_pos
  have hU : nv (oct s0 s1 s2 s3 t0 t1 t2 t3) 8 = (x % MM) * (y % MM) := by
    have h0 : 0 ≤ x % MM := Int.emod_nonneg _ (by omega)
    have h1 : x % MM < MM := Int.emod_lt_of_pos _ hm
    have h2 : 0 ≤ y % MM := Int.emod_nonneg _ (by omega)
    have h3 : y % MM < MM := Int.emod_lt_of_pos _ hm
    have h4 : (x % MM) * (y % MM) < MM * MM := Int.lt_of_le_of_lt (Int.mul_le_mul_of_nonneg_right (Int.le_of_lt h1) h2) (Int.mul_lt_mul_of_pos_left h3 hm)
    have h5 : 0 ≤ (x % MM) * (y % MM) := Int.mul_nonneg h0 h2
    rw [oct_nv, is.2, it.small (Int.ediv_nonneg h5 (by omega)) (Int.ediv_lt_of_lt_mul hm h4)]
    have := Int.mul_ediv_add_emod ((x % MM) * (y % MM)) MM
    omega
  have PR : Hid (∀ W : World, Calls Tryz.prog 84 #[.agg #[.int .u64 a0, .int .u64 a1, .int .u64 a2, .int .u64 a3], .agg #[.int .u64 b0, .int .u64 b1, .int .u64 b2, .int .u64 b3]] W fun e w' => e = .returned (.agg (rowL 8 (oct s0 s1 s2 s3 t0 t1 t2 t3)).toArray) ∧ Below W.heap.size W w') := fun W => product_is x y a0 a1 a2 a3 b0 b1 b2 b3 s0 s1 s2 s3 t0 t1 t2 t3 W ha hb is it
  have DV : Hid (∀ W : World, Calls Tryz.prog 86 #[.agg (rowL 8 (oct s0 s1 s2 s3 t0 t1 t2 t3)).toArray, .agg #[.int .u64 c0, .int .u64 c1, .int .u64 c2, .int .u64 c3]] W fun e w' => DR ((x % MM) * (y % MM)) (z % MM) p0 p1 p2 p3 e ∧ Below W.heap.size W w') := fun W => divide_p _ _ z c0 c1 c2 c3 p0 p1 p2 p3 (oct_u64 is.u0 is.u1 is.u2 is.u3 it.u0 it.u1 it.u2 it.u3) hU hc hp W
  clear ha hb hc hp is it hU
  go_enter Tryz.func36, Tryz.ntmps36
  go_upto_region 1 with fail
  have X1 : Hid (Bx w [(w.heap.size + 1 + 1 + 1, 0, 0, 0, 0), (w.heap.size + 1 + 1, c0, c1, c2, c3), (w.heap.size + 1, b0, b1, b2, b3), (w.heap.size, a0, a1, a2, a3)] ((((w.alloc (.cells #[.int .u64 a0, .int .u64 a1, .int .u64 a2, .int .u64 a3] 24)).alloc (.cells #[.int .u64 b0, .int .u64 b1, .int .u64 b2, .int .u64 b3] 24)).alloc (.cells #[.int .u64 c0, .int .u64 c1, .int .u64 c2, .int .u64 c3] 24)).alloc (.cells #[.int .u64 0, .int .u64 0, .int .u64 0, .int .u64 0] 24))) := by
    have h := ((((Bx.start w).alloc a0 a1 a2 a3).alloc b0 b1 b2 b3).alloc c0 c1 c2 c3).alloc 0 0 0 0
    simp only [World.size_alloc] at h
    exact h
  generalize ((((w.alloc (.cells #[.int .u64 a0, .int .u64 a1, .int .u64 a2, .int .u64 a3] 24)).alloc (.cells #[.int .u64 b0, .int .u64 b1, .int .u64 b2, .int .u64 b3] 24)).alloc (.cells #[.int .u64 c0, .int .u64 c1, .int .u64 c2, .int .u64 c3] 24)).alloc (.cells #[.int .u64 0, .int .u64 0, .int .u64 0, .int .u64 0] 24)) = w3 at X1 ⊢
  go_cut [8] (fun s8 wx => ∃ b6 : Nat, s8 = .pointer (some ⟨b6, 0, none⟩) ∧ Box wx b6 p0 p1 p2 p3 ∧ Bx w [(w.heap.size + 1 + 1 + 1, 0, 0, 0, 0), (w.heap.size + 1 + 1, c0, c1, c2, c3), (w.heap.size + 1, b0, b1, b2, b3), (w.heap.size, a0, a1, a2, a3)] wx)
  case first =>
    refine wp_region_held_drew (S := fun w' => Bx w [(w.heap.size + 1 + 1 + 1, 0, 0, 0, 0), (w.heap.size + 1 + 1, c0, c1, c2, c3), (w.heap.size + 1, b0, b1, b2, b3), (w.heap.size, a0, a1, a2, a3)] w') (by kernel_rfl) X1.out.drew (fun hHeld => ?_)
    generalize w3.drew = g0 at hHeld ⊢
    clear X1
    refine wpAnyH_take (i := 0) (v := .agg #[.int .u64 a0, .int .u64 a1, .int .u64 a2, .int .u64 a3]) op0 (by kernel_rfl) (by kernel_rfl) (by kernel_rfl) (fun _ _ _ h => h) (Or.inl ⟨by rfl, fun W hS => ?_⟩) hHeld ?_
    · obtain ⟨h0, h1, h2, h3, _⟩ := hS.f0 mm3
      go_simp
    simp only [Act.put, List.setIfInBounds_toArray, List.set_cons_zero, List.set_cons_succ]
    refine wpAnyH_take (i := 1) (v := .agg #[.int .u64 b0, .int .u64 b1, .int .u64 b2, .int .u64 b3]) op1 (by kernel_rfl) (by kernel_rfl) (by kernel_rfl) (fun _ _ _ h => h) (Or.inl ⟨by rfl, fun W hS => ?_⟩) hHeld ?_
    · obtain ⟨h0, h1, h2, h3, _⟩ := hS.f0 mm2
      go_simp
    simp only [Act.put, List.setIfInBounds_toArray, List.set_cons_zero, List.set_cons_succ]
    refine wpAnyH_take (i := 3) (v := .agg #[.int .u64 c0, .int .u64 c1, .int .u64 c2, .int .u64 c3]) op3 (by kernel_rfl) (by kernel_rfl) (by kernel_rfl) (fun _ _ _ h => h) (Or.inl ⟨by rfl, fun W hS => ?_⟩) hHeld ?_
    · obtain ⟨h0, h1, h2, h3, _⟩ := hS.f0 mm1
      go_simp
    simp only [Act.put, List.setIfInBounds_toArray, List.set_cons_zero, List.set_cons_succ]
    refine wpAnyH_ready (rs := [2, 8, 9]) (by kernel_rfl) (by simp) ?_
    refine AllReadyH.cons op2 (fun K hK => ?_) (AllReadyH.cons op8 (fun K hK => ?_) (AllReadyH.cons op9 (fun K hK => ?_) AllReadyH.nil))
    · rw [if_pos (by rfl)]
      go_simp
      refine (PR.out _).mono ?_
      rintro e g1 ⟨rfl, hB⟩
      have x1 := hHeld.past hB
      clear hB hHeld 
      (try go_wp2_with fail)
      refine hK.out _ _ x1 (fun _ => ?_)
      clear hK K
      refine wpAnyH_ready (rs := [4, 8, 9]) (by kernel_rfl) (by simp) ?_
      refine AllReadyH.cons op4 (fun K hK => ?_) (AllReadyH.cons op8 (fun K hK => ?_) (AllReadyH.cons op9 (fun K hK => ?_) AllReadyH.nil))
      · rw [if_pos (by rfl)]
        go_simp
        refine (DV.out _).mono ?_
        rintro e g2 ⟨⟨q, rfl, hq⟩, hB⟩
        have x2 := x1.past hB
        clear hB x1 
        (try go_wp2_with fail)
        refine hK.out _ _ x2 (fun _ => ?_)
        clear hK K
        refine wpAnyH_take (i := 5) (v := .tuple #[.agg (rowL 8 q).toArray, .agg #[.int .u64 p0, .int .u64 p1, .int .u64 p2, .int .u64 p3]]) op5 (by kernel_rfl) (by kernel_rfl) (by kernel_rfl) (fun _ _ _ h => h) (Or.inl ⟨by rfl, fun W hS => ?_⟩) x2 ?_
        · go_simp
        simp only [Act.put, List.setIfInBounds_toArray, List.set_cons_zero, List.set_cons_succ]
        refine wpAnyH_take (i := 6) (v := .agg (rowL 8 q).toArray) op6 (by kernel_rfl) (by kernel_rfl) (by kernel_rfl) (fun _ _ _ h => h) (Or.inl ⟨by rfl, fun W hS => ?_⟩) x2 ?_
        · go_simp
        simp only [Act.put, List.setIfInBounds_toArray, List.set_cons_zero, List.set_cons_succ]
        refine wpAnyH_take (i := 7) (v := .agg #[.int .u64 p0, .int .u64 p1, .int .u64 p2, .int .u64 p3]) op7 (by kernel_rfl) (by kernel_rfl) (by kernel_rfl) (fun _ _ _ h => h) (Or.inl ⟨by rfl, fun W hS => ?_⟩) x2 ?_
        · go_simp
        simp only [Act.put, List.setIfInBounds_toArray, List.set_cons_zero, List.set_cons_succ]
        refine wpAnyH_ready (rs := [8, 9]) (by kernel_rfl) (by simp) ?_
        refine AllReadyH.cons op8 (fun K hK => ?_) (AllReadyH.cons op9 (fun K hK => ?_) AllReadyH.nil)
        · rw [if_pos (by rfl)]
          go_simp
          have x3 : Bx w [(w.heap.size + 1 + 1 + 1, 0, 0, 0, 0), (w.heap.size + 1 + 1, c0, c1, c2, c3), (w.heap.size + 1, b0, b1, b2, b3), (w.heap.size, a0, a1, a2, a3)] (g2.alloc (.cells #[.int .u64 0, .int .u64 0, .int .u64 0, .int .u64 0, .int .u64 0, .int .u64 0, .int .u64 0, .int .u64 0] 69)) := x2.past ((Below.refl _ _).alloc (Nat.le_refl _) _)
          have lb5 : w.heap.size + 1 + 1 + 1 < g2.heap.size := x2.lt _ mm0
          have rb53 : Row (g2.alloc (.cells #[.int .u64 0, .int .u64 0, .int .u64 0, .int .u64 0, .int .u64 0, .int .u64 0, .int .u64 0, .int .u64 0] 69)) g2.heap.size 8 (fun _ => 0) := by rw [zero8]; exact Row.new g2 69 8 _
          refine hK.out _ _ x3 (fun _ => ?_)
          clear hK K x2 
          generalize g2.alloc (.cells #[.int .u64 0, .int .u64 0, .int .u64 0, .int .u64 0, .int .u64 0, .int .u64 0, .int .u64 0, .int .u64 0] 69) = g3 at x3 rb53 ⊢
          generalize g2.heap.size = b5 at lb5  rb53 ⊢
          refine wpAnyH_ready (rs := [9]) (by kernel_rfl) (by simp) ?_
          refine AllReadyH.cons op9 (fun K hK => ?_) AllReadyH.nil
          rw [if_pos (by rfl)]
          go_simp
          have x4 : Bx w [(w.heap.size + 1 + 1 + 1, 0, 0, 0, 0), (w.heap.size + 1 + 1, c0, c1, c2, c3), (w.heap.size + 1, b0, b1, b2, b3), (w.heap.size, a0, a1, a2, a3)] (g3.alloc (.cells #[.int .u64 0, .int .u64 0, .int .u64 0, .int .u64 0] 24)) := x3.past ((Below.refl _ _).alloc (Nat.le_refl _) _)
          have lb6 : w.heap.size + 1 + 1 + 1 < g3.heap.size := x3.lt _ mm0
          have rb54 : Row (g3.alloc (.cells #[.int .u64 0, .int .u64 0, .int .u64 0, .int .u64 0] 24)) b5 8 (fun _ => 0) := Row.below rb53 ((Below.refl _ _).alloc (Nat.le_refl _) _) (Row.lt rb53 (by omega))
          have mb5b6 : b5 < g3.heap.size := Row.lt rb53 (by omega)
          have rb64 : Box (g3.alloc (.cells #[.int .u64 0, .int .u64 0, .int .u64 0, .int .u64 0] 24)) g3.heap.size 0 0 0 0 := Box.new g3 24 0 0 0 0
          refine hK.out _ _ x4 (fun _ => ?_)
          clear hK K x3 rb53
          generalize g3.alloc (.cells #[.int .u64 0, .int .u64 0, .int .u64 0, .int .u64 0] 24) = g4 at x4 rb54 rb64 ⊢
          generalize g3.heap.size = b6 at lb6 mb5b6 rb64 ⊢
          refine wpAnyH_ready (rs := [10]) (by kernel_rfl) (by simp) ?_
          refine AllReadyH.cons op10 (fun K hK => ?_) AllReadyH.nil
          rw [if_pos (by rfl)]
          refine wp_store_mid 69 _ _ rfl b5 0 (rowL 8 q).toArray rfl rfl (there_row rb54) (by rw [List.size_toArray, rowL_len]; kernel_rfl) (rowL_one 8 q) ?_
          show K _ (g4.setCells b5 0 (rowL 8 q))
          have x5 : Bx w [(w.heap.size + 1 + 1 + 1, 0, 0, 0, 0), (w.heap.size + 1 + 1, c0, c1, c2, c3), (w.heap.size + 1, b0, b1, b2, b3), (w.heap.size, a0, a1, a2, a3)] (g4.setCells b5 0 (rowL 8 q)) := Bx.cells x4 _ _ _ (by omega) (by intro p hp; simp only [List.mem_cons, List.not_mem_nil, or_false] at hp; rcases hp with rfl | rfl | rfl | rfl <;> simp <;> omega)
          have rb55 : Row (g4.setCells b5 0 (rowL 8 q)) b5 8 q := Row.of_range rb54
          have rb65 : Box (g4.setCells b5 0 (rowL 8 q)) b6 0 0 0 0 := Box.set_others (by omega) _ 0 rb64
          refine hK.out _ _ x5 (fun _ => ?_)
          clear hK K x4 rb54 rb64
          generalize g4.setCells b5 0 (rowL 8 q) = g5 at x5 rb55 rb65 ⊢
          simp only [Act.put]
          refine wpAnyH_ready (rs := [11]) (by kernel_rfl) (by simp) ?_
          refine AllReadyH.cons op11 (fun K hK => ?_) AllReadyH.nil
          rw [if_pos (by rfl)]
          obtain ⟨h0, h1, h2, h3, f0, f1, f2, f3⟩ := Box.facts rb65
          go_simp
          have x6 : Bx w [(w.heap.size + 1 + 1 + 1, 0, 0, 0, 0), (w.heap.size + 1 + 1, c0, c1, c2, c3), (w.heap.size + 1, b0, b1, b2, b3), (w.heap.size, a0, a1, a2, a3)] ((((g5.setCell ⟨b6, 0, none⟩ (.int .u64 p0)).setCell ⟨b6, 1, none⟩ (.int .u64 p1)).setCell ⟨b6, 2, none⟩ (.int .u64 p2)).setCell ⟨b6, 3, none⟩ (.int .u64 p3)) := Bx.cells x5 b6 0 [_, _, _, _] (by omega) (by intro p hp; simp only [List.mem_cons, List.not_mem_nil, or_false] at hp; rcases hp with rfl | rfl | rfl | rfl <;> simp <;> omega)
          have rb66 : Box ((((g5.setCell ⟨b6, 0, none⟩ (.int .u64 p0)).setCell ⟨b6, 1, none⟩ (.int .u64 p1)).setCell ⟨b6, 2, none⟩ (.int .u64 p2)).setCell ⟨b6, 3, none⟩ (.int .u64 p3)) b6 p0 p1 p2 p3 := Box.put rb65 p0 p1 p2 p3
          refine hK.out _ _ x6 (fun _ => ?_)
          clear hK K h0 h1 h2 h3 f0 f1 f2 f3 x5 rb55 rb65
          generalize ((((g5.setCell ⟨b6, 0, none⟩ (.int .u64 p0)).setCell ⟨b6, 1, none⟩ (.int .u64 p1)).setCell ⟨b6, 2, none⟩ (.int .u64 p2)).setCell ⟨b6, 3, none⟩ (.int .u64 p3)) = g6 at x6 rb66 ⊢
          (try simp only [Act.put])
          refine wpAnyH_done (by kernel_rfl) ?_ _
          go_wp2
          go_meet
          case rel => exact ⟨_, rfl, rb66, x6⟩
        · rw [if_pos (by rfl)]
          go_simp
          have x7 : Bx w [(w.heap.size + 1 + 1 + 1, 0, 0, 0, 0), (w.heap.size + 1 + 1, c0, c1, c2, c3), (w.heap.size + 1, b0, b1, b2, b3), (w.heap.size, a0, a1, a2, a3)] (g2.alloc (.cells #[.int .u64 0, .int .u64 0, .int .u64 0, .int .u64 0] 24)) := x2.past ((Below.refl _ _).alloc (Nat.le_refl _) _)
          have lb6 : w.heap.size + 1 + 1 + 1 < g2.heap.size := x2.lt _ mm0
          have rb67 : Box (g2.alloc (.cells #[.int .u64 0, .int .u64 0, .int .u64 0, .int .u64 0] 24)) g2.heap.size 0 0 0 0 := Box.new g2 24 0 0 0 0
          refine hK.out _ _ x7 (fun _ => ?_)
          clear hK K x2 
          generalize g2.alloc (.cells #[.int .u64 0, .int .u64 0, .int .u64 0, .int .u64 0] 24) = g7 at x7 rb67 ⊢
          generalize g2.heap.size = b6 at lb6  rb67 ⊢
          refine wpAnyH_ready (rs := [8]) (by kernel_rfl) (by simp) ?_
          refine AllReadyH.cons op8 (fun K hK => ?_) AllReadyH.nil
          rw [if_pos (by rfl)]
          go_simp
          have x8 : Bx w [(w.heap.size + 1 + 1 + 1, 0, 0, 0, 0), (w.heap.size + 1 + 1, c0, c1, c2, c3), (w.heap.size + 1, b0, b1, b2, b3), (w.heap.size, a0, a1, a2, a3)] (g7.alloc (.cells #[.int .u64 0, .int .u64 0, .int .u64 0, .int .u64 0, .int .u64 0, .int .u64 0, .int .u64 0, .int .u64 0] 69)) := x7.past ((Below.refl _ _).alloc (Nat.le_refl _) _)
          have lb5 : w.heap.size + 1 + 1 + 1 < g7.heap.size := x7.lt _ mm0
          have rb68 : Box (g7.alloc (.cells #[.int .u64 0, .int .u64 0, .int .u64 0, .int .u64 0, .int .u64 0, .int .u64 0, .int .u64 0, .int .u64 0] 69)) b6 0 0 0 0 := Box.below rb67 ((Below.refl _ _).alloc (Nat.le_refl _) _) (Box.lt rb67)
          have mb6b5 : b6 < g7.heap.size := Box.lt rb67
          have rb58 : Row (g7.alloc (.cells #[.int .u64 0, .int .u64 0, .int .u64 0, .int .u64 0, .int .u64 0, .int .u64 0, .int .u64 0, .int .u64 0] 69)) g7.heap.size 8 (fun _ => 0) := by rw [zero8]; exact Row.new g7 69 8 _
          refine hK.out _ _ x8 (fun _ => ?_)
          clear hK K x7 rb67
          generalize g7.alloc (.cells #[.int .u64 0, .int .u64 0, .int .u64 0, .int .u64 0, .int .u64 0, .int .u64 0, .int .u64 0, .int .u64 0] 69) = g8 at x8 rb68 rb58 ⊢
          generalize g7.heap.size = b5 at lb5 mb6b5 rb58 ⊢
          refine wpAnyH_ready (rs := [10]) (by kernel_rfl) (by simp) ?_
          refine AllReadyH.cons op10 (fun K hK => ?_) AllReadyH.nil
          rw [if_pos (by rfl)]
          refine wp_store_mid 69 _ _ rfl b5 0 (rowL 8 q).toArray rfl rfl (there_row rb58) (by rw [List.size_toArray, rowL_len]; kernel_rfl) (rowL_one 8 q) ?_
          show K _ (g8.setCells b5 0 (rowL 8 q))
          have x9 : Bx w [(w.heap.size + 1 + 1 + 1, 0, 0, 0, 0), (w.heap.size + 1 + 1, c0, c1, c2, c3), (w.heap.size + 1, b0, b1, b2, b3), (w.heap.size, a0, a1, a2, a3)] (g8.setCells b5 0 (rowL 8 q)) := Bx.cells x8 _ _ _ (by omega) (by intro p hp; simp only [List.mem_cons, List.not_mem_nil, or_false] at hp; rcases hp with rfl | rfl | rfl | rfl <;> simp <;> omega)
          have rb69 : Box (g8.setCells b5 0 (rowL 8 q)) b6 0 0 0 0 := Box.set_others (by omega) _ 0 rb68
          have rb59 : Row (g8.setCells b5 0 (rowL 8 q)) b5 8 q := Row.of_range rb58
          refine hK.out _ _ x9 (fun _ => ?_)
          clear hK K x8 rb68 rb58
          generalize g8.setCells b5 0 (rowL 8 q) = g9 at x9 rb69 rb59 ⊢
          simp only [Act.put]
          refine wpAnyH_ready (rs := [11]) (by kernel_rfl) (by simp) ?_
          refine AllReadyH.cons op11 (fun K hK => ?_) AllReadyH.nil
          rw [if_pos (by rfl)]
          obtain ⟨h0, h1, h2, h3, f0, f1, f2, f3⟩ := Box.facts rb69
          go_simp
          have x10 : Bx w [(w.heap.size + 1 + 1 + 1, 0, 0, 0, 0), (w.heap.size + 1 + 1, c0, c1, c2, c3), (w.heap.size + 1, b0, b1, b2, b3), (w.heap.size, a0, a1, a2, a3)] ((((g9.setCell ⟨b6, 0, none⟩ (.int .u64 p0)).setCell ⟨b6, 1, none⟩ (.int .u64 p1)).setCell ⟨b6, 2, none⟩ (.int .u64 p2)).setCell ⟨b6, 3, none⟩ (.int .u64 p3)) := Bx.cells x9 b6 0 [_, _, _, _] (by omega) (by intro p hp; simp only [List.mem_cons, List.not_mem_nil, or_false] at hp; rcases hp with rfl | rfl | rfl | rfl <;> simp <;> omega)
          have rb610 : Box ((((g9.setCell ⟨b6, 0, none⟩ (.int .u64 p0)).setCell ⟨b6, 1, none⟩ (.int .u64 p1)).setCell ⟨b6, 2, none⟩ (.int .u64 p2)).setCell ⟨b6, 3, none⟩ (.int .u64 p3)) b6 p0 p1 p2 p3 := Box.put rb69 p0 p1 p2 p3
          refine hK.out _ _ x10 (fun _ => ?_)
          clear hK K h0 h1 h2 h3 f0 f1 f2 f3 x9 rb69 rb59
          generalize ((((g9.setCell ⟨b6, 0, none⟩ (.int .u64 p0)).setCell ⟨b6, 1, none⟩ (.int .u64 p1)).setCell ⟨b6, 2, none⟩ (.int .u64 p2)).setCell ⟨b6, 3, none⟩ (.int .u64 p3)) = g10 at x10 rb610 ⊢
          (try simp only [Act.put])
          refine wpAnyH_done (by kernel_rfl) ?_ _
          go_wp2
          go_meet
          case rel => exact ⟨_, rfl, rb610, x10⟩
      · rw [if_pos (by rfl)]
        go_simp
        have x11 : Bx w [(w.heap.size + 1 + 1 + 1, 0, 0, 0, 0), (w.heap.size + 1 + 1, c0, c1, c2, c3), (w.heap.size + 1, b0, b1, b2, b3), (w.heap.size, a0, a1, a2, a3)] (g1.alloc (.cells #[.int .u64 0, .int .u64 0, .int .u64 0, .int .u64 0, .int .u64 0, .int .u64 0, .int .u64 0, .int .u64 0] 69)) := x1.past ((Below.refl _ _).alloc (Nat.le_refl _) _)
        have lb5 : w.heap.size + 1 + 1 + 1 < g1.heap.size := x1.lt _ mm0
        have rb511 : Row (g1.alloc (.cells #[.int .u64 0, .int .u64 0, .int .u64 0, .int .u64 0, .int .u64 0, .int .u64 0, .int .u64 0, .int .u64 0] 69)) g1.heap.size 8 (fun _ => 0) := by rw [zero8]; exact Row.new g1 69 8 _
        refine hK.out _ _ x11 (fun _ => ?_)
        clear hK K x1 
        generalize g1.alloc (.cells #[.int .u64 0, .int .u64 0, .int .u64 0, .int .u64 0, .int .u64 0, .int .u64 0, .int .u64 0, .int .u64 0] 69) = g11 at x11 rb511 ⊢
        generalize g1.heap.size = b5 at lb5  rb511 ⊢
        refine wpAnyH_ready (rs := [4, 9]) (by kernel_rfl) (by simp) ?_
        refine AllReadyH.cons op4 (fun K hK => ?_) (AllReadyH.cons op9 (fun K hK => ?_) AllReadyH.nil)
        · rw [if_pos (by rfl)]
          go_simp
          refine (DV.out _).mono ?_
          rintro e g12 ⟨⟨q, rfl, hq⟩, hB⟩
          have x12 := x11.past hB
          have rb512 : Row g12 b5 8 (fun _ => 0) := Row.below rb511 hB (Row.lt rb511 (by omega))
          clear hB x11 rb511
          (try go_wp2_with fail)
          refine hK.out _ _ x12 (fun _ => ?_)
          clear hK K
          refine wpAnyH_take (i := 5) (v := .tuple #[.agg (rowL 8 q).toArray, .agg #[.int .u64 p0, .int .u64 p1, .int .u64 p2, .int .u64 p3]]) op5 (by kernel_rfl) (by kernel_rfl) (by kernel_rfl) (fun _ _ _ h => h) (Or.inl ⟨by rfl, fun W hS => ?_⟩) x12 ?_
          · go_simp
          simp only [Act.put, List.setIfInBounds_toArray, List.set_cons_zero, List.set_cons_succ]
          refine wpAnyH_take (i := 6) (v := .agg (rowL 8 q).toArray) op6 (by kernel_rfl) (by kernel_rfl) (by kernel_rfl) (fun _ _ _ h => h) (Or.inl ⟨by rfl, fun W hS => ?_⟩) x12 ?_
          · go_simp
          simp only [Act.put, List.setIfInBounds_toArray, List.set_cons_zero, List.set_cons_succ]
          refine wpAnyH_take (i := 7) (v := .agg #[.int .u64 p0, .int .u64 p1, .int .u64 p2, .int .u64 p3]) op7 (by kernel_rfl) (by kernel_rfl) (by kernel_rfl) (fun _ _ _ h => h) (Or.inl ⟨by rfl, fun W hS => ?_⟩) x12 ?_
          · go_simp
          simp only [Act.put, List.setIfInBounds_toArray, List.set_cons_zero, List.set_cons_succ]
          refine wpAnyH_ready (rs := [9]) (by kernel_rfl) (by simp) ?_
          refine AllReadyH.cons op9 (fun K hK => ?_) AllReadyH.nil
          rw [if_pos (by rfl)]
          go_simp
          have x13 : Bx w [(w.heap.size + 1 + 1 + 1, 0, 0, 0, 0), (w.heap.size + 1 + 1, c0, c1, c2, c3), (w.heap.size + 1, b0, b1, b2, b3), (w.heap.size, a0, a1, a2, a3)] (g12.alloc (.cells #[.int .u64 0, .int .u64 0, .int .u64 0, .int .u64 0] 24)) := x12.past ((Below.refl _ _).alloc (Nat.le_refl _) _)
          have lb6 : w.heap.size + 1 + 1 + 1 < g12.heap.size := x12.lt _ mm0
          have rb513 : Row (g12.alloc (.cells #[.int .u64 0, .int .u64 0, .int .u64 0, .int .u64 0] 24)) b5 8 (fun _ => 0) := Row.below rb512 ((Below.refl _ _).alloc (Nat.le_refl _) _) (Row.lt rb512 (by omega))
          have mb5b6 : b5 < g12.heap.size := Row.lt rb512 (by omega)
          have rb613 : Box (g12.alloc (.cells #[.int .u64 0, .int .u64 0, .int .u64 0, .int .u64 0] 24)) g12.heap.size 0 0 0 0 := Box.new g12 24 0 0 0 0
          refine hK.out _ _ x13 (fun _ => ?_)
          clear hK K x12 rb512
          generalize g12.alloc (.cells #[.int .u64 0, .int .u64 0, .int .u64 0, .int .u64 0] 24) = g13 at x13 rb513 rb613 ⊢
          generalize g12.heap.size = b6 at lb6 mb5b6 rb613 ⊢
          refine wpAnyH_ready (rs := [10]) (by kernel_rfl) (by simp) ?_
          refine AllReadyH.cons op10 (fun K hK => ?_) AllReadyH.nil
          rw [if_pos (by rfl)]
          refine wp_store_mid 69 _ _ rfl b5 0 (rowL 8 q).toArray rfl rfl (there_row rb513) (by rw [List.size_toArray, rowL_len]; kernel_rfl) (rowL_one 8 q) ?_
          show K _ (g13.setCells b5 0 (rowL 8 q))
          have x14 : Bx w [(w.heap.size + 1 + 1 + 1, 0, 0, 0, 0), (w.heap.size + 1 + 1, c0, c1, c2, c3), (w.heap.size + 1, b0, b1, b2, b3), (w.heap.size, a0, a1, a2, a3)] (g13.setCells b5 0 (rowL 8 q)) := Bx.cells x13 _ _ _ (by omega) (by intro p hp; simp only [List.mem_cons, List.not_mem_nil, or_false] at hp; rcases hp with rfl | rfl | rfl | rfl <;> simp <;> omega)
          have rb514 : Row (g13.setCells b5 0 (rowL 8 q)) b5 8 q := Row.of_range rb513
          have rb614 : Box (g13.setCells b5 0 (rowL 8 q)) b6 0 0 0 0 := Box.set_others (by omega) _ 0 rb613
          refine hK.out _ _ x14 (fun _ => ?_)
          clear hK K x13 rb513 rb613
          generalize g13.setCells b5 0 (rowL 8 q) = g14 at x14 rb514 rb614 ⊢
          simp only [Act.put]
          refine wpAnyH_ready (rs := [11]) (by kernel_rfl) (by simp) ?_
          refine AllReadyH.cons op11 (fun K hK => ?_) AllReadyH.nil
          rw [if_pos (by rfl)]
          obtain ⟨h0, h1, h2, h3, f0, f1, f2, f3⟩ := Box.facts rb614
          go_simp
          have x15 : Bx w [(w.heap.size + 1 + 1 + 1, 0, 0, 0, 0), (w.heap.size + 1 + 1, c0, c1, c2, c3), (w.heap.size + 1, b0, b1, b2, b3), (w.heap.size, a0, a1, a2, a3)] ((((g14.setCell ⟨b6, 0, none⟩ (.int .u64 p0)).setCell ⟨b6, 1, none⟩ (.int .u64 p1)).setCell ⟨b6, 2, none⟩ (.int .u64 p2)).setCell ⟨b6, 3, none⟩ (.int .u64 p3)) := Bx.cells x14 b6 0 [_, _, _, _] (by omega) (by intro p hp; simp only [List.mem_cons, List.not_mem_nil, or_false] at hp; rcases hp with rfl | rfl | rfl | rfl <;> simp <;> omega)
          have rb615 : Box ((((g14.setCell ⟨b6, 0, none⟩ (.int .u64 p0)).setCell ⟨b6, 1, none⟩ (.int .u64 p1)).setCell ⟨b6, 2, none⟩ (.int .u64 p2)).setCell ⟨b6, 3, none⟩ (.int .u64 p3)) b6 p0 p1 p2 p3 := Box.put rb614 p0 p1 p2 p3
          refine hK.out _ _ x15 (fun _ => ?_)
          clear hK K h0 h1 h2 h3 f0 f1 f2 f3 x14 rb514 rb614
          generalize ((((g14.setCell ⟨b6, 0, none⟩ (.int .u64 p0)).setCell ⟨b6, 1, none⟩ (.int .u64 p1)).setCell ⟨b6, 2, none⟩ (.int .u64 p2)).setCell ⟨b6, 3, none⟩ (.int .u64 p3)) = g15 at x15 rb615 ⊢
          (try simp only [Act.put])
          refine wpAnyH_done (by kernel_rfl) ?_ _
          go_wp2
          go_meet
          case rel => exact ⟨_, rfl, rb615, x15⟩
        · rw [if_pos (by rfl)]
          go_simp
          have x16 : Bx w [(w.heap.size + 1 + 1 + 1, 0, 0, 0, 0), (w.heap.size + 1 + 1, c0, c1, c2, c3), (w.heap.size + 1, b0, b1, b2, b3), (w.heap.size, a0, a1, a2, a3)] (g11.alloc (.cells #[.int .u64 0, .int .u64 0, .int .u64 0, .int .u64 0] 24)) := x11.past ((Below.refl _ _).alloc (Nat.le_refl _) _)
          have lb6 : w.heap.size + 1 + 1 + 1 < g11.heap.size := x11.lt _ mm0
          have rb516 : Row (g11.alloc (.cells #[.int .u64 0, .int .u64 0, .int .u64 0, .int .u64 0] 24)) b5 8 (fun _ => 0) := Row.below rb511 ((Below.refl _ _).alloc (Nat.le_refl _) _) (Row.lt rb511 (by omega))
          have mb5b6 : b5 < g11.heap.size := Row.lt rb511 (by omega)
          have rb616 : Box (g11.alloc (.cells #[.int .u64 0, .int .u64 0, .int .u64 0, .int .u64 0] 24)) g11.heap.size 0 0 0 0 := Box.new g11 24 0 0 0 0
          refine hK.out _ _ x16 (fun _ => ?_)
          clear hK K x11 rb511
          generalize g11.alloc (.cells #[.int .u64 0, .int .u64 0, .int .u64 0, .int .u64 0] 24) = g16 at x16 rb516 rb616 ⊢
          generalize g11.heap.size = b6 at lb6 mb5b6 rb616 ⊢
          refine wpAnyH_ready (rs := [4]) (by kernel_rfl) (by simp) ?_
          refine AllReadyH.cons op4 (fun K hK => ?_) AllReadyH.nil
          rw [if_pos (by rfl)]
          go_simp
          refine (DV.out _).mono ?_
          rintro e g17 ⟨⟨q, rfl, hq⟩, hB⟩
          have x17 := x16.past hB
          have rb517 : Row g17 b5 8 (fun _ => 0) := Row.below rb516 hB (Row.lt rb516 (by omega))
          have rb617 : Box g17 b6 0 0 0 0 := Box.below rb616 hB (Box.lt rb616)
          clear hB x16 rb516 rb616
          (try go_wp2_with fail)
          refine hK.out _ _ x17 (fun _ => ?_)
          clear hK K
          refine wpAnyH_take (i := 5) (v := .tuple #[.agg (rowL 8 q).toArray, .agg #[.int .u64 p0, .int .u64 p1, .int .u64 p2, .int .u64 p3]]) op5 (by kernel_rfl) (by kernel_rfl) (by kernel_rfl) (fun _ _ _ h => h) (Or.inl ⟨by rfl, fun W hS => ?_⟩) x17 ?_
          · go_simp
          simp only [Act.put, List.setIfInBounds_toArray, List.set_cons_zero, List.set_cons_succ]
          refine wpAnyH_take (i := 6) (v := .agg (rowL 8 q).toArray) op6 (by kernel_rfl) (by kernel_rfl) (by kernel_rfl) (fun _ _ _ h => h) (Or.inl ⟨by rfl, fun W hS => ?_⟩) x17 ?_
          · go_simp
          simp only [Act.put, List.setIfInBounds_toArray, List.set_cons_zero, List.set_cons_succ]
          refine wpAnyH_take (i := 7) (v := .agg #[.int .u64 p0, .int .u64 p1, .int .u64 p2, .int .u64 p3]) op7 (by kernel_rfl) (by kernel_rfl) (by kernel_rfl) (fun _ _ _ h => h) (Or.inl ⟨by rfl, fun W hS => ?_⟩) x17 ?_
          · go_simp
          simp only [Act.put, List.setIfInBounds_toArray, List.set_cons_zero, List.set_cons_succ]
          refine wpAnyH_ready (rs := [10]) (by kernel_rfl) (by simp) ?_
          refine AllReadyH.cons op10 (fun K hK => ?_) AllReadyH.nil
          rw [if_pos (by rfl)]
          refine wp_store_mid 69 _ _ rfl b5 0 (rowL 8 q).toArray rfl rfl (there_row rb517) (by rw [List.size_toArray, rowL_len]; kernel_rfl) (rowL_one 8 q) ?_
          show K _ (g17.setCells b5 0 (rowL 8 q))
          have x18 : Bx w [(w.heap.size + 1 + 1 + 1, 0, 0, 0, 0), (w.heap.size + 1 + 1, c0, c1, c2, c3), (w.heap.size + 1, b0, b1, b2, b3), (w.heap.size, a0, a1, a2, a3)] (g17.setCells b5 0 (rowL 8 q)) := Bx.cells x17 _ _ _ (by omega) (by intro p hp; simp only [List.mem_cons, List.not_mem_nil, or_false] at hp; rcases hp with rfl | rfl | rfl | rfl <;> simp <;> omega)
          have rb518 : Row (g17.setCells b5 0 (rowL 8 q)) b5 8 q := Row.of_range rb517
          have rb618 : Box (g17.setCells b5 0 (rowL 8 q)) b6 0 0 0 0 := Box.set_others (by omega) _ 0 rb617
          refine hK.out _ _ x18 (fun _ => ?_)
          clear hK K x17 rb517 rb617
          generalize g17.setCells b5 0 (rowL 8 q) = g18 at x18 rb518 rb618 ⊢
          simp only [Act.put]
          refine wpAnyH_ready (rs := [11]) (by kernel_rfl) (by simp) ?_
          refine AllReadyH.cons op11 (fun K hK => ?_) AllReadyH.nil
          rw [if_pos (by rfl)]
          obtain ⟨h0, h1, h2, h3, f0, f1, f2, f3⟩ := Box.facts rb618
          go_simp
          have x19 : Bx w [(w.heap.size + 1 + 1 + 1, 0, 0, 0, 0), (w.heap.size + 1 + 1, c0, c1, c2, c3), (w.heap.size + 1, b0, b1, b2, b3), (w.heap.size, a0, a1, a2, a3)] ((((g18.setCell ⟨b6, 0, none⟩ (.int .u64 p0)).setCell ⟨b6, 1, none⟩ (.int .u64 p1)).setCell ⟨b6, 2, none⟩ (.int .u64 p2)).setCell ⟨b6, 3, none⟩ (.int .u64 p3)) := Bx.cells x18 b6 0 [_, _, _, _] (by omega) (by intro p hp; simp only [List.mem_cons, List.not_mem_nil, or_false] at hp; rcases hp with rfl | rfl | rfl | rfl <;> simp <;> omega)
          have rb619 : Box ((((g18.setCell ⟨b6, 0, none⟩ (.int .u64 p0)).setCell ⟨b6, 1, none⟩ (.int .u64 p1)).setCell ⟨b6, 2, none⟩ (.int .u64 p2)).setCell ⟨b6, 3, none⟩ (.int .u64 p3)) b6 p0 p1 p2 p3 := Box.put rb618 p0 p1 p2 p3
          refine hK.out _ _ x19 (fun _ => ?_)
          clear hK K h0 h1 h2 h3 f0 f1 f2 f3 x18 rb518 rb618
          generalize ((((g18.setCell ⟨b6, 0, none⟩ (.int .u64 p0)).setCell ⟨b6, 1, none⟩ (.int .u64 p1)).setCell ⟨b6, 2, none⟩ (.int .u64 p2)).setCell ⟨b6, 3, none⟩ (.int .u64 p3)) = g19 at x19 rb619 ⊢
          (try simp only [Act.put])
          refine wpAnyH_done (by kernel_rfl) ?_ _
          go_wp2
          go_meet
          case rel => exact ⟨_, rfl, rb619, x19⟩
      · rw [if_pos (by rfl)]
        go_simp
        have x20 : Bx w [(w.heap.size + 1 + 1 + 1, 0, 0, 0, 0), (w.heap.size + 1 + 1, c0, c1, c2, c3), (w.heap.size + 1, b0, b1, b2, b3), (w.heap.size, a0, a1, a2, a3)] (g1.alloc (.cells #[.int .u64 0, .int .u64 0, .int .u64 0, .int .u64 0] 24)) := x1.past ((Below.refl _ _).alloc (Nat.le_refl _) _)
        have lb6 : w.heap.size + 1 + 1 + 1 < g1.heap.size := x1.lt _ mm0
        have rb620 : Box (g1.alloc (.cells #[.int .u64 0, .int .u64 0, .int .u64 0, .int .u64 0] 24)) g1.heap.size 0 0 0 0 := Box.new g1 24 0 0 0 0
        refine hK.out _ _ x20 (fun _ => ?_)
        clear hK K x1 
        generalize g1.alloc (.cells #[.int .u64 0, .int .u64 0, .int .u64 0, .int .u64 0] 24) = g20 at x20 rb620 ⊢
        generalize g1.heap.size = b6 at lb6  rb620 ⊢
        refine wpAnyH_ready (rs := [4, 8]) (by kernel_rfl) (by simp) ?_
        refine AllReadyH.cons op4 (fun K hK => ?_) (AllReadyH.cons op8 (fun K hK => ?_) AllReadyH.nil)
        · rw [if_pos (by rfl)]
          go_simp
          refine (DV.out _).mono ?_
          rintro e g21 ⟨⟨q, rfl, hq⟩, hB⟩
          have x21 := x20.past hB
          have rb621 : Box g21 b6 0 0 0 0 := Box.below rb620 hB (Box.lt rb620)
          clear hB x20 rb620
          (try go_wp2_with fail)
          refine hK.out _ _ x21 (fun _ => ?_)
          clear hK K
          refine wpAnyH_take (i := 5) (v := .tuple #[.agg (rowL 8 q).toArray, .agg #[.int .u64 p0, .int .u64 p1, .int .u64 p2, .int .u64 p3]]) op5 (by kernel_rfl) (by kernel_rfl) (by kernel_rfl) (fun _ _ _ h => h) (Or.inl ⟨by rfl, fun W hS => ?_⟩) x21 ?_
          · go_simp
          simp only [Act.put, List.setIfInBounds_toArray, List.set_cons_zero, List.set_cons_succ]
          refine wpAnyH_take (i := 6) (v := .agg (rowL 8 q).toArray) op6 (by kernel_rfl) (by kernel_rfl) (by kernel_rfl) (fun _ _ _ h => h) (Or.inl ⟨by rfl, fun W hS => ?_⟩) x21 ?_
          · go_simp
          simp only [Act.put, List.setIfInBounds_toArray, List.set_cons_zero, List.set_cons_succ]
          refine wpAnyH_take (i := 7) (v := .agg #[.int .u64 p0, .int .u64 p1, .int .u64 p2, .int .u64 p3]) op7 (by kernel_rfl) (by kernel_rfl) (by kernel_rfl) (fun _ _ _ h => h) (Or.inl ⟨by rfl, fun W hS => ?_⟩) x21 ?_
          · go_simp
          simp only [Act.put, List.setIfInBounds_toArray, List.set_cons_zero, List.set_cons_succ]
          refine wpAnyH_ready (rs := [8]) (by kernel_rfl) (by simp) ?_
          refine AllReadyH.cons op8 (fun K hK => ?_) AllReadyH.nil
          rw [if_pos (by rfl)]
          go_simp
          have x22 : Bx w [(w.heap.size + 1 + 1 + 1, 0, 0, 0, 0), (w.heap.size + 1 + 1, c0, c1, c2, c3), (w.heap.size + 1, b0, b1, b2, b3), (w.heap.size, a0, a1, a2, a3)] (g21.alloc (.cells #[.int .u64 0, .int .u64 0, .int .u64 0, .int .u64 0, .int .u64 0, .int .u64 0, .int .u64 0, .int .u64 0] 69)) := x21.past ((Below.refl _ _).alloc (Nat.le_refl _) _)
          have lb5 : w.heap.size + 1 + 1 + 1 < g21.heap.size := x21.lt _ mm0
          have rb622 : Box (g21.alloc (.cells #[.int .u64 0, .int .u64 0, .int .u64 0, .int .u64 0, .int .u64 0, .int .u64 0, .int .u64 0, .int .u64 0] 69)) b6 0 0 0 0 := Box.below rb621 ((Below.refl _ _).alloc (Nat.le_refl _) _) (Box.lt rb621)
          have mb6b5 : b6 < g21.heap.size := Box.lt rb621
          have rb522 : Row (g21.alloc (.cells #[.int .u64 0, .int .u64 0, .int .u64 0, .int .u64 0, .int .u64 0, .int .u64 0, .int .u64 0, .int .u64 0] 69)) g21.heap.size 8 (fun _ => 0) := by rw [zero8]; exact Row.new g21 69 8 _
          refine hK.out _ _ x22 (fun _ => ?_)
          clear hK K x21 rb621
          generalize g21.alloc (.cells #[.int .u64 0, .int .u64 0, .int .u64 0, .int .u64 0, .int .u64 0, .int .u64 0, .int .u64 0, .int .u64 0] 69) = g22 at x22 rb622 rb522 ⊢
          generalize g21.heap.size = b5 at lb5 mb6b5 rb522 ⊢
          refine wpAnyH_ready (rs := [10]) (by kernel_rfl) (by simp) ?_
          refine AllReadyH.cons op10 (fun K hK => ?_) AllReadyH.nil
          rw [if_pos (by rfl)]
          refine wp_store_mid 69 _ _ rfl b5 0 (rowL 8 q).toArray rfl rfl (there_row rb522) (by rw [List.size_toArray, rowL_len]; kernel_rfl) (rowL_one 8 q) ?_
          show K _ (g22.setCells b5 0 (rowL 8 q))
          have x23 : Bx w [(w.heap.size + 1 + 1 + 1, 0, 0, 0, 0), (w.heap.size + 1 + 1, c0, c1, c2, c3), (w.heap.size + 1, b0, b1, b2, b3), (w.heap.size, a0, a1, a2, a3)] (g22.setCells b5 0 (rowL 8 q)) := Bx.cells x22 _ _ _ (by omega) (by intro p hp; simp only [List.mem_cons, List.not_mem_nil, or_false] at hp; rcases hp with rfl | rfl | rfl | rfl <;> simp <;> omega)
          have rb623 : Box (g22.setCells b5 0 (rowL 8 q)) b6 0 0 0 0 := Box.set_others (by omega) _ 0 rb622
          have rb523 : Row (g22.setCells b5 0 (rowL 8 q)) b5 8 q := Row.of_range rb522
          refine hK.out _ _ x23 (fun _ => ?_)
          clear hK K x22 rb622 rb522
          generalize g22.setCells b5 0 (rowL 8 q) = g23 at x23 rb623 rb523 ⊢
          simp only [Act.put]
          refine wpAnyH_ready (rs := [11]) (by kernel_rfl) (by simp) ?_
          refine AllReadyH.cons op11 (fun K hK => ?_) AllReadyH.nil
          rw [if_pos (by rfl)]
          obtain ⟨h0, h1, h2, h3, f0, f1, f2, f3⟩ := Box.facts rb623
          go_simp
          have x24 : Bx w [(w.heap.size + 1 + 1 + 1, 0, 0, 0, 0), (w.heap.size + 1 + 1, c0, c1, c2, c3), (w.heap.size + 1, b0, b1, b2, b3), (w.heap.size, a0, a1, a2, a3)] ((((g23.setCell ⟨b6, 0, none⟩ (.int .u64 p0)).setCell ⟨b6, 1, none⟩ (.int .u64 p1)).setCell ⟨b6, 2, none⟩ (.int .u64 p2)).setCell ⟨b6, 3, none⟩ (.int .u64 p3)) := Bx.cells x23 b6 0 [_, _, _, _] (by omega) (by intro p hp; simp only [List.mem_cons, List.not_mem_nil, or_false] at hp; rcases hp with rfl | rfl | rfl | rfl <;> simp <;> omega)
          have rb624 : Box ((((g23.setCell ⟨b6, 0, none⟩ (.int .u64 p0)).setCell ⟨b6, 1, none⟩ (.int .u64 p1)).setCell ⟨b6, 2, none⟩ (.int .u64 p2)).setCell ⟨b6, 3, none⟩ (.int .u64 p3)) b6 p0 p1 p2 p3 := Box.put rb623 p0 p1 p2 p3
          refine hK.out _ _ x24 (fun _ => ?_)
          clear hK K h0 h1 h2 h3 f0 f1 f2 f3 x23 rb623 rb523
          generalize ((((g23.setCell ⟨b6, 0, none⟩ (.int .u64 p0)).setCell ⟨b6, 1, none⟩ (.int .u64 p1)).setCell ⟨b6, 2, none⟩ (.int .u64 p2)).setCell ⟨b6, 3, none⟩ (.int .u64 p3)) = g24 at x24 rb624 ⊢
          (try simp only [Act.put])
          refine wpAnyH_done (by kernel_rfl) ?_ _
          go_wp2
          go_meet
          case rel => exact ⟨_, rfl, rb624, x24⟩
        · rw [if_pos (by rfl)]
          go_simp
          have x25 : Bx w [(w.heap.size + 1 + 1 + 1, 0, 0, 0, 0), (w.heap.size + 1 + 1, c0, c1, c2, c3), (w.heap.size + 1, b0, b1, b2, b3), (w.heap.size, a0, a1, a2, a3)] (g20.alloc (.cells #[.int .u64 0, .int .u64 0, .int .u64 0, .int .u64 0, .int .u64 0, .int .u64 0, .int .u64 0, .int .u64 0] 69)) := x20.past ((Below.refl _ _).alloc (Nat.le_refl _) _)
          have lb5 : w.heap.size + 1 + 1 + 1 < g20.heap.size := x20.lt _ mm0
          have rb625 : Box (g20.alloc (.cells #[.int .u64 0, .int .u64 0, .int .u64 0, .int .u64 0, .int .u64 0, .int .u64 0, .int .u64 0, .int .u64 0] 69)) b6 0 0 0 0 := Box.below rb620 ((Below.refl _ _).alloc (Nat.le_refl _) _) (Box.lt rb620)
          have mb6b5 : b6 < g20.heap.size := Box.lt rb620
          have rb525 : Row (g20.alloc (.cells #[.int .u64 0, .int .u64 0, .int .u64 0, .int .u64 0, .int .u64 0, .int .u64 0, .int .u64 0, .int .u64 0] 69)) g20.heap.size 8 (fun _ => 0) := by rw [zero8]; exact Row.new g20 69 8 _
          refine hK.out _ _ x25 (fun _ => ?_)
          clear hK K x20 rb620
          generalize g20.alloc (.cells #[.int .u64 0, .int .u64 0, .int .u64 0, .int .u64 0, .int .u64 0, .int .u64 0, .int .u64 0, .int .u64 0] 69) = g25 at x25 rb625 rb525 ⊢
          generalize g20.heap.size = b5 at lb5 mb6b5 rb525 ⊢
          refine wpAnyH_ready (rs := [4]) (by kernel_rfl) (by simp) ?_
          refine AllReadyH.cons op4 (fun K hK => ?_) AllReadyH.nil
          rw [if_pos (by rfl)]
          go_simp
          refine (DV.out _).mono ?_
          rintro e g26 ⟨⟨q, rfl, hq⟩, hB⟩
          have x26 := x25.past hB
          have rb626 : Box g26 b6 0 0 0 0 := Box.below rb625 hB (Box.lt rb625)
          have rb526 : Row g26 b5 8 (fun _ => 0) := Row.below rb525 hB (Row.lt rb525 (by omega))
          clear hB x25 rb625 rb525
          (try go_wp2_with fail)
          refine hK.out _ _ x26 (fun _ => ?_)
          clear hK K
          refine wpAnyH_take (i := 5) (v := .tuple #[.agg (rowL 8 q).toArray, .agg #[.int .u64 p0, .int .u64 p1, .int .u64 p2, .int .u64 p3]]) op5 (by kernel_rfl) (by kernel_rfl) (by kernel_rfl) (fun _ _ _ h => h) (Or.inl ⟨by rfl, fun W hS => ?_⟩) x26 ?_
          · go_simp
          simp only [Act.put, List.setIfInBounds_toArray, List.set_cons_zero, List.set_cons_succ]
          refine wpAnyH_take (i := 6) (v := .agg (rowL 8 q).toArray) op6 (by kernel_rfl) (by kernel_rfl) (by kernel_rfl) (fun _ _ _ h => h) (Or.inl ⟨by rfl, fun W hS => ?_⟩) x26 ?_
          · go_simp
          simp only [Act.put, List.setIfInBounds_toArray, List.set_cons_zero, List.set_cons_succ]
          refine wpAnyH_take (i := 7) (v := .agg #[.int .u64 p0, .int .u64 p1, .int .u64 p2, .int .u64 p3]) op7 (by kernel_rfl) (by kernel_rfl) (by kernel_rfl) (fun _ _ _ h => h) (Or.inl ⟨by rfl, fun W hS => ?_⟩) x26 ?_
          · go_simp
          simp only [Act.put, List.setIfInBounds_toArray, List.set_cons_zero, List.set_cons_succ]
          refine wpAnyH_ready (rs := [10]) (by kernel_rfl) (by simp) ?_
          refine AllReadyH.cons op10 (fun K hK => ?_) AllReadyH.nil
          rw [if_pos (by rfl)]
          refine wp_store_mid 69 _ _ rfl b5 0 (rowL 8 q).toArray rfl rfl (there_row rb526) (by rw [List.size_toArray, rowL_len]; kernel_rfl) (rowL_one 8 q) ?_
          show K _ (g26.setCells b5 0 (rowL 8 q))
          have x27 : Bx w [(w.heap.size + 1 + 1 + 1, 0, 0, 0, 0), (w.heap.size + 1 + 1, c0, c1, c2, c3), (w.heap.size + 1, b0, b1, b2, b3), (w.heap.size, a0, a1, a2, a3)] (g26.setCells b5 0 (rowL 8 q)) := Bx.cells x26 _ _ _ (by omega) (by intro p hp; simp only [List.mem_cons, List.not_mem_nil, or_false] at hp; rcases hp with rfl | rfl | rfl | rfl <;> simp <;> omega)
          have rb627 : Box (g26.setCells b5 0 (rowL 8 q)) b6 0 0 0 0 := Box.set_others (by omega) _ 0 rb626
          have rb527 : Row (g26.setCells b5 0 (rowL 8 q)) b5 8 q := Row.of_range rb526
          refine hK.out _ _ x27 (fun _ => ?_)
          clear hK K x26 rb626 rb526
          generalize g26.setCells b5 0 (rowL 8 q) = g27 at x27 rb627 rb527 ⊢
          simp only [Act.put]
          refine wpAnyH_ready (rs := [11]) (by kernel_rfl) (by simp) ?_
          refine AllReadyH.cons op11 (fun K hK => ?_) AllReadyH.nil
          rw [if_pos (by rfl)]
          obtain ⟨h0, h1, h2, h3, f0, f1, f2, f3⟩ := Box.facts rb627
          go_simp
          have x28 : Bx w [(w.heap.size + 1 + 1 + 1, 0, 0, 0, 0), (w.heap.size + 1 + 1, c0, c1, c2, c3), (w.heap.size + 1, b0, b1, b2, b3), (w.heap.size, a0, a1, a2, a3)] ((((g27.setCell ⟨b6, 0, none⟩ (.int .u64 p0)).setCell ⟨b6, 1, none⟩ (.int .u64 p1)).setCell ⟨b6, 2, none⟩ (.int .u64 p2)).setCell ⟨b6, 3, none⟩ (.int .u64 p3)) := Bx.cells x27 b6 0 [_, _, _, _] (by omega) (by intro p hp; simp only [List.mem_cons, List.not_mem_nil, or_false] at hp; rcases hp with rfl | rfl | rfl | rfl <;> simp <;> omega)
          have rb628 : Box ((((g27.setCell ⟨b6, 0, none⟩ (.int .u64 p0)).setCell ⟨b6, 1, none⟩ (.int .u64 p1)).setCell ⟨b6, 2, none⟩ (.int .u64 p2)).setCell ⟨b6, 3, none⟩ (.int .u64 p3)) b6 p0 p1 p2 p3 := Box.put rb627 p0 p1 p2 p3
          refine hK.out _ _ x28 (fun _ => ?_)
          clear hK K h0 h1 h2 h3 f0 f1 f2 f3 x27 rb627 rb527
          generalize ((((g27.setCell ⟨b6, 0, none⟩ (.int .u64 p0)).setCell ⟨b6, 1, none⟩ (.int .u64 p1)).setCell ⟨b6, 2, none⟩ (.int .u64 p2)).setCell ⟨b6, 3, none⟩ (.int .u64 p3)) = g28 at x28 rb628 ⊢
          (try simp only [Act.put])
          refine wpAnyH_done (by kernel_rfl) ?_ _
          go_wp2
          go_meet
          case rel => exact ⟨_, rfl, rb628, x28⟩
    · rw [if_pos (by rfl)]
      go_simp
      have x29 : Bx w [(w.heap.size + 1 + 1 + 1, 0, 0, 0, 0), (w.heap.size + 1 + 1, c0, c1, c2, c3), (w.heap.size + 1, b0, b1, b2, b3), (w.heap.size, a0, a1, a2, a3)] (g0.alloc (.cells #[.int .u64 0, .int .u64 0, .int .u64 0, .int .u64 0, .int .u64 0, .int .u64 0, .int .u64 0, .int .u64 0] 69)) := hHeld.past ((Below.refl _ _).alloc (Nat.le_refl _) _)
      have lb5 : w.heap.size + 1 + 1 + 1 < g0.heap.size := hHeld.lt _ mm0
      have rb529 : Row (g0.alloc (.cells #[.int .u64 0, .int .u64 0, .int .u64 0, .int .u64 0, .int .u64 0, .int .u64 0, .int .u64 0, .int .u64 0] 69)) g0.heap.size 8 (fun _ => 0) := by rw [zero8]; exact Row.new g0 69 8 _
      refine hK.out _ _ x29 (fun _ => ?_)
      clear hK K hHeld 
      generalize g0.alloc (.cells #[.int .u64 0, .int .u64 0, .int .u64 0, .int .u64 0, .int .u64 0, .int .u64 0, .int .u64 0, .int .u64 0] 69) = g29 at x29 rb529 ⊢
      generalize g0.heap.size = b5 at lb5  rb529 ⊢
      refine wpAnyH_ready (rs := [2, 9]) (by kernel_rfl) (by simp) ?_
      refine AllReadyH.cons op2 (fun K hK => ?_) (AllReadyH.cons op9 (fun K hK => ?_) AllReadyH.nil)
      · rw [if_pos (by rfl)]
        go_simp
        refine (PR.out _).mono ?_
        rintro e g30 ⟨rfl, hB⟩
        have x30 := x29.past hB
        have rb530 : Row g30 b5 8 (fun _ => 0) := Row.below rb529 hB (Row.lt rb529 (by omega))
        clear hB x29 rb529
        (try go_wp2_with fail)
        refine hK.out _ _ x30 (fun _ => ?_)
        clear hK K
        refine wpAnyH_ready (rs := [4, 9]) (by kernel_rfl) (by simp) ?_
        refine AllReadyH.cons op4 (fun K hK => ?_) (AllReadyH.cons op9 (fun K hK => ?_) AllReadyH.nil)
        · rw [if_pos (by rfl)]
          go_simp
          refine (DV.out _).mono ?_
          rintro e g31 ⟨⟨q, rfl, hq⟩, hB⟩
          have x31 := x30.past hB
          have rb531 : Row g31 b5 8 (fun _ => 0) := Row.below rb530 hB (Row.lt rb530 (by omega))
          clear hB x30 rb530
          (try go_wp2_with fail)
          refine hK.out _ _ x31 (fun _ => ?_)
          clear hK K
          refine wpAnyH_take (i := 5) (v := .tuple #[.agg (rowL 8 q).toArray, .agg #[.int .u64 p0, .int .u64 p1, .int .u64 p2, .int .u64 p3]]) op5 (by kernel_rfl) (by kernel_rfl) (by kernel_rfl) (fun _ _ _ h => h) (Or.inl ⟨by rfl, fun W hS => ?_⟩) x31 ?_
          · go_simp
          simp only [Act.put, List.setIfInBounds_toArray, List.set_cons_zero, List.set_cons_succ]
          refine wpAnyH_take (i := 6) (v := .agg (rowL 8 q).toArray) op6 (by kernel_rfl) (by kernel_rfl) (by kernel_rfl) (fun _ _ _ h => h) (Or.inl ⟨by rfl, fun W hS => ?_⟩) x31 ?_
          · go_simp
          simp only [Act.put, List.setIfInBounds_toArray, List.set_cons_zero, List.set_cons_succ]
          refine wpAnyH_take (i := 7) (v := .agg #[.int .u64 p0, .int .u64 p1, .int .u64 p2, .int .u64 p3]) op7 (by kernel_rfl) (by kernel_rfl) (by kernel_rfl) (fun _ _ _ h => h) (Or.inl ⟨by rfl, fun W hS => ?_⟩) x31 ?_
          · go_simp
          simp only [Act.put, List.setIfInBounds_toArray, List.set_cons_zero, List.set_cons_succ]
          refine wpAnyH_ready (rs := [9]) (by kernel_rfl) (by simp) ?_
          refine AllReadyH.cons op9 (fun K hK => ?_) AllReadyH.nil
          rw [if_pos (by rfl)]
          go_simp
          have x32 : Bx w [(w.heap.size + 1 + 1 + 1, 0, 0, 0, 0), (w.heap.size + 1 + 1, c0, c1, c2, c3), (w.heap.size + 1, b0, b1, b2, b3), (w.heap.size, a0, a1, a2, a3)] (g31.alloc (.cells #[.int .u64 0, .int .u64 0, .int .u64 0, .int .u64 0] 24)) := x31.past ((Below.refl _ _).alloc (Nat.le_refl _) _)
          have lb6 : w.heap.size + 1 + 1 + 1 < g31.heap.size := x31.lt _ mm0
          have rb532 : Row (g31.alloc (.cells #[.int .u64 0, .int .u64 0, .int .u64 0, .int .u64 0] 24)) b5 8 (fun _ => 0) := Row.below rb531 ((Below.refl _ _).alloc (Nat.le_refl _) _) (Row.lt rb531 (by omega))
          have mb5b6 : b5 < g31.heap.size := Row.lt rb531 (by omega)
          have rb632 : Box (g31.alloc (.cells #[.int .u64 0, .int .u64 0, .int .u64 0, .int .u64 0] 24)) g31.heap.size 0 0 0 0 := Box.new g31 24 0 0 0 0
          refine hK.out _ _ x32 (fun _ => ?_)
          clear hK K x31 rb531
          generalize g31.alloc (.cells #[.int .u64 0, .int .u64 0, .int .u64 0, .int .u64 0] 24) = g32 at x32 rb532 rb632 ⊢
          generalize g31.heap.size = b6 at lb6 mb5b6 rb632 ⊢
          refine wpAnyH_ready (rs := [10]) (by kernel_rfl) (by simp) ?_
          refine AllReadyH.cons op10 (fun K hK => ?_) AllReadyH.nil
          rw [if_pos (by rfl)]
          refine wp_store_mid 69 _ _ rfl b5 0 (rowL 8 q).toArray rfl rfl (there_row rb532) (by rw [List.size_toArray, rowL_len]; kernel_rfl) (rowL_one 8 q) ?_
          show K _ (g32.setCells b5 0 (rowL 8 q))
          have x33 : Bx w [(w.heap.size + 1 + 1 + 1, 0, 0, 0, 0), (w.heap.size + 1 + 1, c0, c1, c2, c3), (w.heap.size + 1, b0, b1, b2, b3), (w.heap.size, a0, a1, a2, a3)] (g32.setCells b5 0 (rowL 8 q)) := Bx.cells x32 _ _ _ (by omega) (by intro p hp; simp only [List.mem_cons, List.not_mem_nil, or_false] at hp; rcases hp with rfl | rfl | rfl | rfl <;> simp <;> omega)
          have rb533 : Row (g32.setCells b5 0 (rowL 8 q)) b5 8 q := Row.of_range rb532
          have rb633 : Box (g32.setCells b5 0 (rowL 8 q)) b6 0 0 0 0 := Box.set_others (by omega) _ 0 rb632
          refine hK.out _ _ x33 (fun _ => ?_)
          clear hK K x32 rb532 rb632
          generalize g32.setCells b5 0 (rowL 8 q) = g33 at x33 rb533 rb633 ⊢
          simp only [Act.put]
          refine wpAnyH_ready (rs := [11]) (by kernel_rfl) (by simp) ?_
          refine AllReadyH.cons op11 (fun K hK => ?_) AllReadyH.nil
          rw [if_pos (by rfl)]
          obtain ⟨h0, h1, h2, h3, f0, f1, f2, f3⟩ := Box.facts rb633
          go_simp
          have x34 : Bx w [(w.heap.size + 1 + 1 + 1, 0, 0, 0, 0), (w.heap.size + 1 + 1, c0, c1, c2, c3), (w.heap.size + 1, b0, b1, b2, b3), (w.heap.size, a0, a1, a2, a3)] ((((g33.setCell ⟨b6, 0, none⟩ (.int .u64 p0)).setCell ⟨b6, 1, none⟩ (.int .u64 p1)).setCell ⟨b6, 2, none⟩ (.int .u64 p2)).setCell ⟨b6, 3, none⟩ (.int .u64 p3)) := Bx.cells x33 b6 0 [_, _, _, _] (by omega) (by intro p hp; simp only [List.mem_cons, List.not_mem_nil, or_false] at hp; rcases hp with rfl | rfl | rfl | rfl <;> simp <;> omega)
          have rb634 : Box ((((g33.setCell ⟨b6, 0, none⟩ (.int .u64 p0)).setCell ⟨b6, 1, none⟩ (.int .u64 p1)).setCell ⟨b6, 2, none⟩ (.int .u64 p2)).setCell ⟨b6, 3, none⟩ (.int .u64 p3)) b6 p0 p1 p2 p3 := Box.put rb633 p0 p1 p2 p3
          refine hK.out _ _ x34 (fun _ => ?_)
          clear hK K h0 h1 h2 h3 f0 f1 f2 f3 x33 rb533 rb633
          generalize ((((g33.setCell ⟨b6, 0, none⟩ (.int .u64 p0)).setCell ⟨b6, 1, none⟩ (.int .u64 p1)).setCell ⟨b6, 2, none⟩ (.int .u64 p2)).setCell ⟨b6, 3, none⟩ (.int .u64 p3)) = g34 at x34 rb634 ⊢
          (try simp only [Act.put])
          refine wpAnyH_done (by kernel_rfl) ?_ _
          go_wp2
          go_meet
          case rel => exact ⟨_, rfl, rb634, x34⟩
        · rw [if_pos (by rfl)]
          go_simp
          have x35 : Bx w [(w.heap.size + 1 + 1 + 1, 0, 0, 0, 0), (w.heap.size + 1 + 1, c0, c1, c2, c3), (w.heap.size + 1, b0, b1, b2, b3), (w.heap.size, a0, a1, a2, a3)] (g30.alloc (.cells #[.int .u64 0, .int .u64 0, .int .u64 0, .int .u64 0] 24)) := x30.past ((Below.refl _ _).alloc (Nat.le_refl _) _)
          have lb6 : w.heap.size + 1 + 1 + 1 < g30.heap.size := x30.lt _ mm0
          have rb535 : Row (g30.alloc (.cells #[.int .u64 0, .int .u64 0, .int .u64 0, .int .u64 0] 24)) b5 8 (fun _ => 0) := Row.below rb530 ((Below.refl _ _).alloc (Nat.le_refl _) _) (Row.lt rb530 (by omega))
          have mb5b6 : b5 < g30.heap.size := Row.lt rb530 (by omega)
          have rb635 : Box (g30.alloc (.cells #[.int .u64 0, .int .u64 0, .int .u64 0, .int .u64 0] 24)) g30.heap.size 0 0 0 0 := Box.new g30 24 0 0 0 0
          refine hK.out _ _ x35 (fun _ => ?_)
          clear hK K x30 rb530
          generalize g30.alloc (.cells #[.int .u64 0, .int .u64 0, .int .u64 0, .int .u64 0] 24) = g35 at x35 rb535 rb635 ⊢
          generalize g30.heap.size = b6 at lb6 mb5b6 rb635 ⊢
          refine wpAnyH_ready (rs := [4]) (by kernel_rfl) (by simp) ?_
          refine AllReadyH.cons op4 (fun K hK => ?_) AllReadyH.nil
          rw [if_pos (by rfl)]
          go_simp
          refine (DV.out _).mono ?_
          rintro e g36 ⟨⟨q, rfl, hq⟩, hB⟩
          have x36 := x35.past hB
          have rb536 : Row g36 b5 8 (fun _ => 0) := Row.below rb535 hB (Row.lt rb535 (by omega))
          have rb636 : Box g36 b6 0 0 0 0 := Box.below rb635 hB (Box.lt rb635)
          clear hB x35 rb535 rb635
          (try go_wp2_with fail)
          refine hK.out _ _ x36 (fun _ => ?_)
          clear hK K
          refine wpAnyH_take (i := 5) (v := .tuple #[.agg (rowL 8 q).toArray, .agg #[.int .u64 p0, .int .u64 p1, .int .u64 p2, .int .u64 p3]]) op5 (by kernel_rfl) (by kernel_rfl) (by kernel_rfl) (fun _ _ _ h => h) (Or.inl ⟨by rfl, fun W hS => ?_⟩) x36 ?_
          · go_simp
          simp only [Act.put, List.setIfInBounds_toArray, List.set_cons_zero, List.set_cons_succ]
          refine wpAnyH_take (i := 6) (v := .agg (rowL 8 q).toArray) op6 (by kernel_rfl) (by kernel_rfl) (by kernel_rfl) (fun _ _ _ h => h) (Or.inl ⟨by rfl, fun W hS => ?_⟩) x36 ?_
          · go_simp
          simp only [Act.put, List.setIfInBounds_toArray, List.set_cons_zero, List.set_cons_succ]
          refine wpAnyH_take (i := 7) (v := .agg #[.int .u64 p0, .int .u64 p1, .int .u64 p2, .int .u64 p3]) op7 (by kernel_rfl) (by kernel_rfl) (by kernel_rfl) (fun _ _ _ h => h) (Or.inl ⟨by rfl, fun W hS => ?_⟩) x36 ?_
          · go_simp
          simp only [Act.put, List.setIfInBounds_toArray, List.set_cons_zero, List.set_cons_succ]
          refine wpAnyH_ready (rs := [10]) (by kernel_rfl) (by simp) ?_
          refine AllReadyH.cons op10 (fun K hK => ?_) AllReadyH.nil
          rw [if_pos (by rfl)]
          refine wp_store_mid 69 _ _ rfl b5 0 (rowL 8 q).toArray rfl rfl (there_row rb536) (by rw [List.size_toArray, rowL_len]; kernel_rfl) (rowL_one 8 q) ?_
          show K _ (g36.setCells b5 0 (rowL 8 q))
          have x37 : Bx w [(w.heap.size + 1 + 1 + 1, 0, 0, 0, 0), (w.heap.size + 1 + 1, c0, c1, c2, c3), (w.heap.size + 1, b0, b1, b2, b3), (w.heap.size, a0, a1, a2, a3)] (g36.setCells b5 0 (rowL 8 q)) := Bx.cells x36 _ _ _ (by omega) (by intro p hp; simp only [List.mem_cons, List.not_mem_nil, or_false] at hp; rcases hp with rfl | rfl | rfl | rfl <;> simp <;> omega)
          have rb537 : Row (g36.setCells b5 0 (rowL 8 q)) b5 8 q := Row.of_range rb536
          have rb637 : Box (g36.setCells b5 0 (rowL 8 q)) b6 0 0 0 0 := Box.set_others (by omega) _ 0 rb636
          refine hK.out _ _ x37 (fun _ => ?_)
          clear hK K x36 rb536 rb636
          generalize g36.setCells b5 0 (rowL 8 q) = g37 at x37 rb537 rb637 ⊢
          simp only [Act.put]
          refine wpAnyH_ready (rs := [11]) (by kernel_rfl) (by simp) ?_
          refine AllReadyH.cons op11 (fun K hK => ?_) AllReadyH.nil
          rw [if_pos (by rfl)]
          obtain ⟨h0, h1, h2, h3, f0, f1, f2, f3⟩ := Box.facts rb637
          go_simp
          have x38 : Bx w [(w.heap.size + 1 + 1 + 1, 0, 0, 0, 0), (w.heap.size + 1 + 1, c0, c1, c2, c3), (w.heap.size + 1, b0, b1, b2, b3), (w.heap.size, a0, a1, a2, a3)] ((((g37.setCell ⟨b6, 0, none⟩ (.int .u64 p0)).setCell ⟨b6, 1, none⟩ (.int .u64 p1)).setCell ⟨b6, 2, none⟩ (.int .u64 p2)).setCell ⟨b6, 3, none⟩ (.int .u64 p3)) := Bx.cells x37 b6 0 [_, _, _, _] (by omega) (by intro p hp; simp only [List.mem_cons, List.not_mem_nil, or_false] at hp; rcases hp with rfl | rfl | rfl | rfl <;> simp <;> omega)
          have rb638 : Box ((((g37.setCell ⟨b6, 0, none⟩ (.int .u64 p0)).setCell ⟨b6, 1, none⟩ (.int .u64 p1)).setCell ⟨b6, 2, none⟩ (.int .u64 p2)).setCell ⟨b6, 3, none⟩ (.int .u64 p3)) b6 p0 p1 p2 p3 := Box.put rb637 p0 p1 p2 p3
          refine hK.out _ _ x38 (fun _ => ?_)
          clear hK K h0 h1 h2 h3 f0 f1 f2 f3 x37 rb537 rb637
          generalize ((((g37.setCell ⟨b6, 0, none⟩ (.int .u64 p0)).setCell ⟨b6, 1, none⟩ (.int .u64 p1)).setCell ⟨b6, 2, none⟩ (.int .u64 p2)).setCell ⟨b6, 3, none⟩ (.int .u64 p3)) = g38 at x38 rb638 ⊢
          (try simp only [Act.put])
          refine wpAnyH_done (by kernel_rfl) ?_ _
          go_wp2
          go_meet
          case rel => exact ⟨_, rfl, rb638, x38⟩
      · rw [if_pos (by rfl)]
        go_simp
        have x39 : Bx w [(w.heap.size + 1 + 1 + 1, 0, 0, 0, 0), (w.heap.size + 1 + 1, c0, c1, c2, c3), (w.heap.size + 1, b0, b1, b2, b3), (w.heap.size, a0, a1, a2, a3)] (g29.alloc (.cells #[.int .u64 0, .int .u64 0, .int .u64 0, .int .u64 0] 24)) := x29.past ((Below.refl _ _).alloc (Nat.le_refl _) _)
        have lb6 : w.heap.size + 1 + 1 + 1 < g29.heap.size := x29.lt _ mm0
        have rb539 : Row (g29.alloc (.cells #[.int .u64 0, .int .u64 0, .int .u64 0, .int .u64 0] 24)) b5 8 (fun _ => 0) := Row.below rb529 ((Below.refl _ _).alloc (Nat.le_refl _) _) (Row.lt rb529 (by omega))
        have mb5b6 : b5 < g29.heap.size := Row.lt rb529 (by omega)
        have rb639 : Box (g29.alloc (.cells #[.int .u64 0, .int .u64 0, .int .u64 0, .int .u64 0] 24)) g29.heap.size 0 0 0 0 := Box.new g29 24 0 0 0 0
        refine hK.out _ _ x39 (fun _ => ?_)
        clear hK K x29 rb529
        generalize g29.alloc (.cells #[.int .u64 0, .int .u64 0, .int .u64 0, .int .u64 0] 24) = g39 at x39 rb539 rb639 ⊢
        generalize g29.heap.size = b6 at lb6 mb5b6 rb639 ⊢
        refine wpAnyH_ready (rs := [2]) (by kernel_rfl) (by simp) ?_
        refine AllReadyH.cons op2 (fun K hK => ?_) AllReadyH.nil
        rw [if_pos (by rfl)]
        go_simp
        refine (PR.out _).mono ?_
        rintro e g40 ⟨rfl, hB⟩
        have x40 := x39.past hB
        have rb540 : Row g40 b5 8 (fun _ => 0) := Row.below rb539 hB (Row.lt rb539 (by omega))
        have rb640 : Box g40 b6 0 0 0 0 := Box.below rb639 hB (Box.lt rb639)
        clear hB x39 rb539 rb639
        (try go_wp2_with fail)
        refine hK.out _ _ x40 (fun _ => ?_)
        clear hK K
        refine wpAnyH_ready (rs := [4]) (by kernel_rfl) (by simp) ?_
        refine AllReadyH.cons op4 (fun K hK => ?_) AllReadyH.nil
        rw [if_pos (by rfl)]
        go_simp
        refine (DV.out _).mono ?_
        rintro e g41 ⟨⟨q, rfl, hq⟩, hB⟩
        have x41 := x40.past hB
        have rb541 : Row g41 b5 8 (fun _ => 0) := Row.below rb540 hB (Row.lt rb540 (by omega))
        have rb641 : Box g41 b6 0 0 0 0 := Box.below rb640 hB (Box.lt rb640)
        clear hB x40 rb540 rb640
        (try go_wp2_with fail)
        refine hK.out _ _ x41 (fun _ => ?_)
        clear hK K
        refine wpAnyH_take (i := 5) (v := .tuple #[.agg (rowL 8 q).toArray, .agg #[.int .u64 p0, .int .u64 p1, .int .u64 p2, .int .u64 p3]]) op5 (by kernel_rfl) (by kernel_rfl) (by kernel_rfl) (fun _ _ _ h => h) (Or.inl ⟨by rfl, fun W hS => ?_⟩) x41 ?_
        · go_simp
        simp only [Act.put, List.setIfInBounds_toArray, List.set_cons_zero, List.set_cons_succ]
        refine wpAnyH_take (i := 6) (v := .agg (rowL 8 q).toArray) op6 (by kernel_rfl) (by kernel_rfl) (by kernel_rfl) (fun _ _ _ h => h) (Or.inl ⟨by rfl, fun W hS => ?_⟩) x41 ?_
        · go_simp
        simp only [Act.put, List.setIfInBounds_toArray, List.set_cons_zero, List.set_cons_succ]
        refine wpAnyH_take (i := 7) (v := .agg #[.int .u64 p0, .int .u64 p1, .int .u64 p2, .int .u64 p3]) op7 (by kernel_rfl) (by kernel_rfl) (by kernel_rfl) (fun _ _ _ h => h) (Or.inl ⟨by rfl, fun W hS => ?_⟩) x41 ?_
        · go_simp
        simp only [Act.put, List.setIfInBounds_toArray, List.set_cons_zero, List.set_cons_succ]
        refine wpAnyH_ready (rs := [10]) (by kernel_rfl) (by simp) ?_
        refine AllReadyH.cons op10 (fun K hK => ?_) AllReadyH.nil
        rw [if_pos (by rfl)]
        refine wp_store_mid 69 _ _ rfl b5 0 (rowL 8 q).toArray rfl rfl (there_row rb541) (by rw [List.size_toArray, rowL_len]; kernel_rfl) (rowL_one 8 q) ?_
        show K _ (g41.setCells b5 0 (rowL 8 q))
        have x42 : Bx w [(w.heap.size + 1 + 1 + 1, 0, 0, 0, 0), (w.heap.size + 1 + 1, c0, c1, c2, c3), (w.heap.size + 1, b0, b1, b2, b3), (w.heap.size, a0, a1, a2, a3)] (g41.setCells b5 0 (rowL 8 q)) := Bx.cells x41 _ _ _ (by omega) (by intro p hp; simp only [List.mem_cons, List.not_mem_nil, or_false] at hp; rcases hp with rfl | rfl | rfl | rfl <;> simp <;> omega)
        have rb542 : Row (g41.setCells b5 0 (rowL 8 q)) b5 8 q := Row.of_range rb541
        have rb642 : Box (g41.setCells b5 0 (rowL 8 q)) b6 0 0 0 0 := Box.set_others (by omega) _ 0 rb641
        refine hK.out _ _ x42 (fun _ => ?_)
        clear hK K x41 rb541 rb641
        generalize g41.setCells b5 0 (rowL 8 q) = g42 at x42 rb542 rb642 ⊢
        simp only [Act.put]
        refine wpAnyH_ready (rs := [11]) (by kernel_rfl) (by simp) ?_
        refine AllReadyH.cons op11 (fun K hK => ?_) AllReadyH.nil
        rw [if_pos (by rfl)]
        obtain ⟨h0, h1, h2, h3, f0, f1, f2, f3⟩ := Box.facts rb642
        go_simp
        have x43 : Bx w [(w.heap.size + 1 + 1 + 1, 0, 0, 0, 0), (w.heap.size + 1 + 1, c0, c1, c2, c3), (w.heap.size + 1, b0, b1, b2, b3), (w.heap.size, a0, a1, a2, a3)] ((((g42.setCell ⟨b6, 0, none⟩ (.int .u64 p0)).setCell ⟨b6, 1, none⟩ (.int .u64 p1)).setCell ⟨b6, 2, none⟩ (.int .u64 p2)).setCell ⟨b6, 3, none⟩ (.int .u64 p3)) := Bx.cells x42 b6 0 [_, _, _, _] (by omega) (by intro p hp; simp only [List.mem_cons, List.not_mem_nil, or_false] at hp; rcases hp with rfl | rfl | rfl | rfl <;> simp <;> omega)
        have rb643 : Box ((((g42.setCell ⟨b6, 0, none⟩ (.int .u64 p0)).setCell ⟨b6, 1, none⟩ (.int .u64 p1)).setCell ⟨b6, 2, none⟩ (.int .u64 p2)).setCell ⟨b6, 3, none⟩ (.int .u64 p3)) b6 p0 p1 p2 p3 := Box.put rb642 p0 p1 p2 p3
        refine hK.out _ _ x43 (fun _ => ?_)
        clear hK K h0 h1 h2 h3 f0 f1 f2 f3 x42 rb542 rb642
        generalize ((((g42.setCell ⟨b6, 0, none⟩ (.int .u64 p0)).setCell ⟨b6, 1, none⟩ (.int .u64 p1)).setCell ⟨b6, 2, none⟩ (.int .u64 p2)).setCell ⟨b6, 3, none⟩ (.int .u64 p3)) = g43 at x43 rb643 ⊢
        (try simp only [Act.put])
        refine wpAnyH_done (by kernel_rfl) ?_ _
        go_wp2
        go_meet
        case rel => exact ⟨_, rfl, rb643, x43⟩
    · rw [if_pos (by rfl)]
      go_simp
      have x44 : Bx w [(w.heap.size + 1 + 1 + 1, 0, 0, 0, 0), (w.heap.size + 1 + 1, c0, c1, c2, c3), (w.heap.size + 1, b0, b1, b2, b3), (w.heap.size, a0, a1, a2, a3)] (g0.alloc (.cells #[.int .u64 0, .int .u64 0, .int .u64 0, .int .u64 0] 24)) := hHeld.past ((Below.refl _ _).alloc (Nat.le_refl _) _)
      have lb6 : w.heap.size + 1 + 1 + 1 < g0.heap.size := hHeld.lt _ mm0
      have rb644 : Box (g0.alloc (.cells #[.int .u64 0, .int .u64 0, .int .u64 0, .int .u64 0] 24)) g0.heap.size 0 0 0 0 := Box.new g0 24 0 0 0 0
      refine hK.out _ _ x44 (fun _ => ?_)
      clear hK K hHeld 
      generalize g0.alloc (.cells #[.int .u64 0, .int .u64 0, .int .u64 0, .int .u64 0] 24) = g44 at x44 rb644 ⊢
      generalize g0.heap.size = b6 at lb6  rb644 ⊢
      refine wpAnyH_ready (rs := [2, 8]) (by kernel_rfl) (by simp) ?_
      refine AllReadyH.cons op2 (fun K hK => ?_) (AllReadyH.cons op8 (fun K hK => ?_) AllReadyH.nil)
      · rw [if_pos (by rfl)]
        go_simp
        refine (PR.out _).mono ?_
        rintro e g45 ⟨rfl, hB⟩
        have x45 := x44.past hB
        have rb645 : Box g45 b6 0 0 0 0 := Box.below rb644 hB (Box.lt rb644)
        clear hB x44 rb644
        (try go_wp2_with fail)
        refine hK.out _ _ x45 (fun _ => ?_)
        clear hK K
        refine wpAnyH_ready (rs := [4, 8]) (by kernel_rfl) (by simp) ?_
        refine AllReadyH.cons op4 (fun K hK => ?_) (AllReadyH.cons op8 (fun K hK => ?_) AllReadyH.nil)
        · rw [if_pos (by rfl)]
          go_simp
          refine (DV.out _).mono ?_
          rintro e g46 ⟨⟨q, rfl, hq⟩, hB⟩
          have x46 := x45.past hB
          have rb646 : Box g46 b6 0 0 0 0 := Box.below rb645 hB (Box.lt rb645)
          clear hB x45 rb645
          (try go_wp2_with fail)
          refine hK.out _ _ x46 (fun _ => ?_)
          clear hK K
          refine wpAnyH_take (i := 5) (v := .tuple #[.agg (rowL 8 q).toArray, .agg #[.int .u64 p0, .int .u64 p1, .int .u64 p2, .int .u64 p3]]) op5 (by kernel_rfl) (by kernel_rfl) (by kernel_rfl) (fun _ _ _ h => h) (Or.inl ⟨by rfl, fun W hS => ?_⟩) x46 ?_
          · go_simp
          simp only [Act.put, List.setIfInBounds_toArray, List.set_cons_zero, List.set_cons_succ]
          refine wpAnyH_take (i := 6) (v := .agg (rowL 8 q).toArray) op6 (by kernel_rfl) (by kernel_rfl) (by kernel_rfl) (fun _ _ _ h => h) (Or.inl ⟨by rfl, fun W hS => ?_⟩) x46 ?_
          · go_simp
          simp only [Act.put, List.setIfInBounds_toArray, List.set_cons_zero, List.set_cons_succ]
          refine wpAnyH_take (i := 7) (v := .agg #[.int .u64 p0, .int .u64 p1, .int .u64 p2, .int .u64 p3]) op7 (by kernel_rfl) (by kernel_rfl) (by kernel_rfl) (fun _ _ _ h => h) (Or.inl ⟨by rfl, fun W hS => ?_⟩) x46 ?_
          · go_simp
          simp only [Act.put, List.setIfInBounds_toArray, List.set_cons_zero, List.set_cons_succ]
          refine wpAnyH_ready (rs := [8]) (by kernel_rfl) (by simp) ?_
          refine AllReadyH.cons op8 (fun K hK => ?_) AllReadyH.nil
          rw [if_pos (by rfl)]
          go_simp
          have x47 : Bx w [(w.heap.size + 1 + 1 + 1, 0, 0, 0, 0), (w.heap.size + 1 + 1, c0, c1, c2, c3), (w.heap.size + 1, b0, b1, b2, b3), (w.heap.size, a0, a1, a2, a3)] (g46.alloc (.cells #[.int .u64 0, .int .u64 0, .int .u64 0, .int .u64 0, .int .u64 0, .int .u64 0, .int .u64 0, .int .u64 0] 69)) := x46.past ((Below.refl _ _).alloc (Nat.le_refl _) _)
          have lb5 : w.heap.size + 1 + 1 + 1 < g46.heap.size := x46.lt _ mm0
          have rb647 : Box (g46.alloc (.cells #[.int .u64 0, .int .u64 0, .int .u64 0, .int .u64 0, .int .u64 0, .int .u64 0, .int .u64 0, .int .u64 0] 69)) b6 0 0 0 0 := Box.below rb646 ((Below.refl _ _).alloc (Nat.le_refl _) _) (Box.lt rb646)
          have mb6b5 : b6 < g46.heap.size := Box.lt rb646
          have rb547 : Row (g46.alloc (.cells #[.int .u64 0, .int .u64 0, .int .u64 0, .int .u64 0, .int .u64 0, .int .u64 0, .int .u64 0, .int .u64 0] 69)) g46.heap.size 8 (fun _ => 0) := by rw [zero8]; exact Row.new g46 69 8 _
          refine hK.out _ _ x47 (fun _ => ?_)
          clear hK K x46 rb646
          generalize g46.alloc (.cells #[.int .u64 0, .int .u64 0, .int .u64 0, .int .u64 0, .int .u64 0, .int .u64 0, .int .u64 0, .int .u64 0] 69) = g47 at x47 rb647 rb547 ⊢
          generalize g46.heap.size = b5 at lb5 mb6b5 rb547 ⊢
          refine wpAnyH_ready (rs := [10]) (by kernel_rfl) (by simp) ?_
          refine AllReadyH.cons op10 (fun K hK => ?_) AllReadyH.nil
          rw [if_pos (by rfl)]
          refine wp_store_mid 69 _ _ rfl b5 0 (rowL 8 q).toArray rfl rfl (there_row rb547) (by rw [List.size_toArray, rowL_len]; kernel_rfl) (rowL_one 8 q) ?_
          show K _ (g47.setCells b5 0 (rowL 8 q))
          have x48 : Bx w [(w.heap.size + 1 + 1 + 1, 0, 0, 0, 0), (w.heap.size + 1 + 1, c0, c1, c2, c3), (w.heap.size + 1, b0, b1, b2, b3), (w.heap.size, a0, a1, a2, a3)] (g47.setCells b5 0 (rowL 8 q)) := Bx.cells x47 _ _ _ (by omega) (by intro p hp; simp only [List.mem_cons, List.not_mem_nil, or_false] at hp; rcases hp with rfl | rfl | rfl | rfl <;> simp <;> omega)
          have rb648 : Box (g47.setCells b5 0 (rowL 8 q)) b6 0 0 0 0 := Box.set_others (by omega) _ 0 rb647
          have rb548 : Row (g47.setCells b5 0 (rowL 8 q)) b5 8 q := Row.of_range rb547
          refine hK.out _ _ x48 (fun _ => ?_)
          clear hK K x47 rb647 rb547
          generalize g47.setCells b5 0 (rowL 8 q) = g48 at x48 rb648 rb548 ⊢
          simp only [Act.put]
          refine wpAnyH_ready (rs := [11]) (by kernel_rfl) (by simp) ?_
          refine AllReadyH.cons op11 (fun K hK => ?_) AllReadyH.nil
          rw [if_pos (by rfl)]
          obtain ⟨h0, h1, h2, h3, f0, f1, f2, f3⟩ := Box.facts rb648
          go_simp
          have x49 : Bx w [(w.heap.size + 1 + 1 + 1, 0, 0, 0, 0), (w.heap.size + 1 + 1, c0, c1, c2, c3), (w.heap.size + 1, b0, b1, b2, b3), (w.heap.size, a0, a1, a2, a3)] ((((g48.setCell ⟨b6, 0, none⟩ (.int .u64 p0)).setCell ⟨b6, 1, none⟩ (.int .u64 p1)).setCell ⟨b6, 2, none⟩ (.int .u64 p2)).setCell ⟨b6, 3, none⟩ (.int .u64 p3)) := Bx.cells x48 b6 0 [_, _, _, _] (by omega) (by intro p hp; simp only [List.mem_cons, List.not_mem_nil, or_false] at hp; rcases hp with rfl | rfl | rfl | rfl <;> simp <;> omega)
          have rb649 : Box ((((g48.setCell ⟨b6, 0, none⟩ (.int .u64 p0)).setCell ⟨b6, 1, none⟩ (.int .u64 p1)).setCell ⟨b6, 2, none⟩ (.int .u64 p2)).setCell ⟨b6, 3, none⟩ (.int .u64 p3)) b6 p0 p1 p2 p3 := Box.put rb648 p0 p1 p2 p3
          refine hK.out _ _ x49 (fun _ => ?_)
          clear hK K h0 h1 h2 h3 f0 f1 f2 f3 x48 rb648 rb548
          generalize ((((g48.setCell ⟨b6, 0, none⟩ (.int .u64 p0)).setCell ⟨b6, 1, none⟩ (.int .u64 p1)).setCell ⟨b6, 2, none⟩ (.int .u64 p2)).setCell ⟨b6, 3, none⟩ (.int .u64 p3)) = g49 at x49 rb649 ⊢
          (try simp only [Act.put])
          refine wpAnyH_done (by kernel_rfl) ?_ _
          go_wp2
          go_meet
          case rel => exact ⟨_, rfl, rb649, x49⟩
        · rw [if_pos (by rfl)]
          go_simp
          have x50 : Bx w [(w.heap.size + 1 + 1 + 1, 0, 0, 0, 0), (w.heap.size + 1 + 1, c0, c1, c2, c3), (w.heap.size + 1, b0, b1, b2, b3), (w.heap.size, a0, a1, a2, a3)] (g45.alloc (.cells #[.int .u64 0, .int .u64 0, .int .u64 0, .int .u64 0, .int .u64 0, .int .u64 0, .int .u64 0, .int .u64 0] 69)) := x45.past ((Below.refl _ _).alloc (Nat.le_refl _) _)
          have lb5 : w.heap.size + 1 + 1 + 1 < g45.heap.size := x45.lt _ mm0
          have rb650 : Box (g45.alloc (.cells #[.int .u64 0, .int .u64 0, .int .u64 0, .int .u64 0, .int .u64 0, .int .u64 0, .int .u64 0, .int .u64 0] 69)) b6 0 0 0 0 := Box.below rb645 ((Below.refl _ _).alloc (Nat.le_refl _) _) (Box.lt rb645)
          have mb6b5 : b6 < g45.heap.size := Box.lt rb645
          have rb550 : Row (g45.alloc (.cells #[.int .u64 0, .int .u64 0, .int .u64 0, .int .u64 0, .int .u64 0, .int .u64 0, .int .u64 0, .int .u64 0] 69)) g45.heap.size 8 (fun _ => 0) := by rw [zero8]; exact Row.new g45 69 8 _
          refine hK.out _ _ x50 (fun _ => ?_)
          clear hK K x45 rb645
          generalize g45.alloc (.cells #[.int .u64 0, .int .u64 0, .int .u64 0, .int .u64 0, .int .u64 0, .int .u64 0, .int .u64 0, .int .u64 0] 69) = g50 at x50 rb650 rb550 ⊢
          generalize g45.heap.size = b5 at lb5 mb6b5 rb550 ⊢
          refine wpAnyH_ready (rs := [4]) (by kernel_rfl) (by simp) ?_
          refine AllReadyH.cons op4 (fun K hK => ?_) AllReadyH.nil
          rw [if_pos (by rfl)]
          go_simp
          refine (DV.out _).mono ?_
          rintro e g51 ⟨⟨q, rfl, hq⟩, hB⟩
          have x51 := x50.past hB
          have rb651 : Box g51 b6 0 0 0 0 := Box.below rb650 hB (Box.lt rb650)
          have rb551 : Row g51 b5 8 (fun _ => 0) := Row.below rb550 hB (Row.lt rb550 (by omega))
          clear hB x50 rb650 rb550
          (try go_wp2_with fail)
          refine hK.out _ _ x51 (fun _ => ?_)
          clear hK K
          refine wpAnyH_take (i := 5) (v := .tuple #[.agg (rowL 8 q).toArray, .agg #[.int .u64 p0, .int .u64 p1, .int .u64 p2, .int .u64 p3]]) op5 (by kernel_rfl) (by kernel_rfl) (by kernel_rfl) (fun _ _ _ h => h) (Or.inl ⟨by rfl, fun W hS => ?_⟩) x51 ?_
          · go_simp
          simp only [Act.put, List.setIfInBounds_toArray, List.set_cons_zero, List.set_cons_succ]
          refine wpAnyH_take (i := 6) (v := .agg (rowL 8 q).toArray) op6 (by kernel_rfl) (by kernel_rfl) (by kernel_rfl) (fun _ _ _ h => h) (Or.inl ⟨by rfl, fun W hS => ?_⟩) x51 ?_
          · go_simp
          simp only [Act.put, List.setIfInBounds_toArray, List.set_cons_zero, List.set_cons_succ]
          refine wpAnyH_take (i := 7) (v := .agg #[.int .u64 p0, .int .u64 p1, .int .u64 p2, .int .u64 p3]) op7 (by kernel_rfl) (by kernel_rfl) (by kernel_rfl) (fun _ _ _ h => h) (Or.inl ⟨by rfl, fun W hS => ?_⟩) x51 ?_
          · go_simp
          simp only [Act.put, List.setIfInBounds_toArray, List.set_cons_zero, List.set_cons_succ]
          refine wpAnyH_ready (rs := [10]) (by kernel_rfl) (by simp) ?_
          refine AllReadyH.cons op10 (fun K hK => ?_) AllReadyH.nil
          rw [if_pos (by rfl)]
          refine wp_store_mid 69 _ _ rfl b5 0 (rowL 8 q).toArray rfl rfl (there_row rb551) (by rw [List.size_toArray, rowL_len]; kernel_rfl) (rowL_one 8 q) ?_
          show K _ (g51.setCells b5 0 (rowL 8 q))
          have x52 : Bx w [(w.heap.size + 1 + 1 + 1, 0, 0, 0, 0), (w.heap.size + 1 + 1, c0, c1, c2, c3), (w.heap.size + 1, b0, b1, b2, b3), (w.heap.size, a0, a1, a2, a3)] (g51.setCells b5 0 (rowL 8 q)) := Bx.cells x51 _ _ _ (by omega) (by intro p hp; simp only [List.mem_cons, List.not_mem_nil, or_false] at hp; rcases hp with rfl | rfl | rfl | rfl <;> simp <;> omega)
          have rb652 : Box (g51.setCells b5 0 (rowL 8 q)) b6 0 0 0 0 := Box.set_others (by omega) _ 0 rb651
          have rb552 : Row (g51.setCells b5 0 (rowL 8 q)) b5 8 q := Row.of_range rb551
          refine hK.out _ _ x52 (fun _ => ?_)
          clear hK K x51 rb651 rb551
          generalize g51.setCells b5 0 (rowL 8 q) = g52 at x52 rb652 rb552 ⊢
          simp only [Act.put]
          refine wpAnyH_ready (rs := [11]) (by kernel_rfl) (by simp) ?_
          refine AllReadyH.cons op11 (fun K hK => ?_) AllReadyH.nil
          rw [if_pos (by rfl)]
          obtain ⟨h0, h1, h2, h3, f0, f1, f2, f3⟩ := Box.facts rb652
          go_simp
          have x53 : Bx w [(w.heap.size + 1 + 1 + 1, 0, 0, 0, 0), (w.heap.size + 1 + 1, c0, c1, c2, c3), (w.heap.size + 1, b0, b1, b2, b3), (w.heap.size, a0, a1, a2, a3)] ((((g52.setCell ⟨b6, 0, none⟩ (.int .u64 p0)).setCell ⟨b6, 1, none⟩ (.int .u64 p1)).setCell ⟨b6, 2, none⟩ (.int .u64 p2)).setCell ⟨b6, 3, none⟩ (.int .u64 p3)) := Bx.cells x52 b6 0 [_, _, _, _] (by omega) (by intro p hp; simp only [List.mem_cons, List.not_mem_nil, or_false] at hp; rcases hp with rfl | rfl | rfl | rfl <;> simp <;> omega)
          have rb653 : Box ((((g52.setCell ⟨b6, 0, none⟩ (.int .u64 p0)).setCell ⟨b6, 1, none⟩ (.int .u64 p1)).setCell ⟨b6, 2, none⟩ (.int .u64 p2)).setCell ⟨b6, 3, none⟩ (.int .u64 p3)) b6 p0 p1 p2 p3 := Box.put rb652 p0 p1 p2 p3
          refine hK.out _ _ x53 (fun _ => ?_)
          clear hK K h0 h1 h2 h3 f0 f1 f2 f3 x52 rb652 rb552
          generalize ((((g52.setCell ⟨b6, 0, none⟩ (.int .u64 p0)).setCell ⟨b6, 1, none⟩ (.int .u64 p1)).setCell ⟨b6, 2, none⟩ (.int .u64 p2)).setCell ⟨b6, 3, none⟩ (.int .u64 p3)) = g53 at x53 rb653 ⊢
          (try simp only [Act.put])
          refine wpAnyH_done (by kernel_rfl) ?_ _
          go_wp2
          go_meet
          case rel => exact ⟨_, rfl, rb653, x53⟩
      · rw [if_pos (by rfl)]
        go_simp
        have x54 : Bx w [(w.heap.size + 1 + 1 + 1, 0, 0, 0, 0), (w.heap.size + 1 + 1, c0, c1, c2, c3), (w.heap.size + 1, b0, b1, b2, b3), (w.heap.size, a0, a1, a2, a3)] (g44.alloc (.cells #[.int .u64 0, .int .u64 0, .int .u64 0, .int .u64 0, .int .u64 0, .int .u64 0, .int .u64 0, .int .u64 0] 69)) := x44.past ((Below.refl _ _).alloc (Nat.le_refl _) _)
        have lb5 : w.heap.size + 1 + 1 + 1 < g44.heap.size := x44.lt _ mm0
        have rb654 : Box (g44.alloc (.cells #[.int .u64 0, .int .u64 0, .int .u64 0, .int .u64 0, .int .u64 0, .int .u64 0, .int .u64 0, .int .u64 0] 69)) b6 0 0 0 0 := Box.below rb644 ((Below.refl _ _).alloc (Nat.le_refl _) _) (Box.lt rb644)
        have mb6b5 : b6 < g44.heap.size := Box.lt rb644
        have rb554 : Row (g44.alloc (.cells #[.int .u64 0, .int .u64 0, .int .u64 0, .int .u64 0, .int .u64 0, .int .u64 0, .int .u64 0, .int .u64 0] 69)) g44.heap.size 8 (fun _ => 0) := by rw [zero8]; exact Row.new g44 69 8 _
        refine hK.out _ _ x54 (fun _ => ?_)
        clear hK K x44 rb644
        generalize g44.alloc (.cells #[.int .u64 0, .int .u64 0, .int .u64 0, .int .u64 0, .int .u64 0, .int .u64 0, .int .u64 0, .int .u64 0] 69) = g54 at x54 rb654 rb554 ⊢
        generalize g44.heap.size = b5 at lb5 mb6b5 rb554 ⊢
        refine wpAnyH_ready (rs := [2]) (by kernel_rfl) (by simp) ?_
        refine AllReadyH.cons op2 (fun K hK => ?_) AllReadyH.nil
        rw [if_pos (by rfl)]
        go_simp
        refine (PR.out _).mono ?_
        rintro e g55 ⟨rfl, hB⟩
        have x55 := x54.past hB
        have rb655 : Box g55 b6 0 0 0 0 := Box.below rb654 hB (Box.lt rb654)
        have rb555 : Row g55 b5 8 (fun _ => 0) := Row.below rb554 hB (Row.lt rb554 (by omega))
        clear hB x54 rb654 rb554
        (try go_wp2_with fail)
        refine hK.out _ _ x55 (fun _ => ?_)
        clear hK K
        refine wpAnyH_ready (rs := [4]) (by kernel_rfl) (by simp) ?_
        refine AllReadyH.cons op4 (fun K hK => ?_) AllReadyH.nil
        rw [if_pos (by rfl)]
        go_simp
        refine (DV.out _).mono ?_
        rintro e g56 ⟨⟨q, rfl, hq⟩, hB⟩
        have x56 := x55.past hB
        have rb656 : Box g56 b6 0 0 0 0 := Box.below rb655 hB (Box.lt rb655)
        have rb556 : Row g56 b5 8 (fun _ => 0) := Row.below rb555 hB (Row.lt rb555 (by omega))
        clear hB x55 rb655 rb555
        (try go_wp2_with fail)
        refine hK.out _ _ x56 (fun _ => ?_)
        clear hK K
        refine wpAnyH_take (i := 5) (v := .tuple #[.agg (rowL 8 q).toArray, .agg #[.int .u64 p0, .int .u64 p1, .int .u64 p2, .int .u64 p3]]) op5 (by kernel_rfl) (by kernel_rfl) (by kernel_rfl) (fun _ _ _ h => h) (Or.inl ⟨by rfl, fun W hS => ?_⟩) x56 ?_
        · go_simp
        simp only [Act.put, List.setIfInBounds_toArray, List.set_cons_zero, List.set_cons_succ]
        refine wpAnyH_take (i := 6) (v := .agg (rowL 8 q).toArray) op6 (by kernel_rfl) (by kernel_rfl) (by kernel_rfl) (fun _ _ _ h => h) (Or.inl ⟨by rfl, fun W hS => ?_⟩) x56 ?_
        · go_simp
        simp only [Act.put, List.setIfInBounds_toArray, List.set_cons_zero, List.set_cons_succ]
        refine wpAnyH_take (i := 7) (v := .agg #[.int .u64 p0, .int .u64 p1, .int .u64 p2, .int .u64 p3]) op7 (by kernel_rfl) (by kernel_rfl) (by kernel_rfl) (fun _ _ _ h => h) (Or.inl ⟨by rfl, fun W hS => ?_⟩) x56 ?_
        · go_simp
        simp only [Act.put, List.setIfInBounds_toArray, List.set_cons_zero, List.set_cons_succ]
        refine wpAnyH_ready (rs := [10]) (by kernel_rfl) (by simp) ?_
        refine AllReadyH.cons op10 (fun K hK => ?_) AllReadyH.nil
        rw [if_pos (by rfl)]
        refine wp_store_mid 69 _ _ rfl b5 0 (rowL 8 q).toArray rfl rfl (there_row rb556) (by rw [List.size_toArray, rowL_len]; kernel_rfl) (rowL_one 8 q) ?_
        show K _ (g56.setCells b5 0 (rowL 8 q))
        have x57 : Bx w [(w.heap.size + 1 + 1 + 1, 0, 0, 0, 0), (w.heap.size + 1 + 1, c0, c1, c2, c3), (w.heap.size + 1, b0, b1, b2, b3), (w.heap.size, a0, a1, a2, a3)] (g56.setCells b5 0 (rowL 8 q)) := Bx.cells x56 _ _ _ (by omega) (by intro p hp; simp only [List.mem_cons, List.not_mem_nil, or_false] at hp; rcases hp with rfl | rfl | rfl | rfl <;> simp <;> omega)
        have rb657 : Box (g56.setCells b5 0 (rowL 8 q)) b6 0 0 0 0 := Box.set_others (by omega) _ 0 rb656
        have rb557 : Row (g56.setCells b5 0 (rowL 8 q)) b5 8 q := Row.of_range rb556
        refine hK.out _ _ x57 (fun _ => ?_)
        clear hK K x56 rb656 rb556
        generalize g56.setCells b5 0 (rowL 8 q) = g57 at x57 rb657 rb557 ⊢
        simp only [Act.put]
        refine wpAnyH_ready (rs := [11]) (by kernel_rfl) (by simp) ?_
        refine AllReadyH.cons op11 (fun K hK => ?_) AllReadyH.nil
        rw [if_pos (by rfl)]
        obtain ⟨h0, h1, h2, h3, f0, f1, f2, f3⟩ := Box.facts rb657
        go_simp
        have x58 : Bx w [(w.heap.size + 1 + 1 + 1, 0, 0, 0, 0), (w.heap.size + 1 + 1, c0, c1, c2, c3), (w.heap.size + 1, b0, b1, b2, b3), (w.heap.size, a0, a1, a2, a3)] ((((g57.setCell ⟨b6, 0, none⟩ (.int .u64 p0)).setCell ⟨b6, 1, none⟩ (.int .u64 p1)).setCell ⟨b6, 2, none⟩ (.int .u64 p2)).setCell ⟨b6, 3, none⟩ (.int .u64 p3)) := Bx.cells x57 b6 0 [_, _, _, _] (by omega) (by intro p hp; simp only [List.mem_cons, List.not_mem_nil, or_false] at hp; rcases hp with rfl | rfl | rfl | rfl <;> simp <;> omega)
        have rb658 : Box ((((g57.setCell ⟨b6, 0, none⟩ (.int .u64 p0)).setCell ⟨b6, 1, none⟩ (.int .u64 p1)).setCell ⟨b6, 2, none⟩ (.int .u64 p2)).setCell ⟨b6, 3, none⟩ (.int .u64 p3)) b6 p0 p1 p2 p3 := Box.put rb657 p0 p1 p2 p3
        refine hK.out _ _ x58 (fun _ => ?_)
        clear hK K h0 h1 h2 h3 f0 f1 f2 f3 x57 rb657 rb557
        generalize ((((g57.setCell ⟨b6, 0, none⟩ (.int .u64 p0)).setCell ⟨b6, 1, none⟩ (.int .u64 p1)).setCell ⟨b6, 2, none⟩ (.int .u64 p2)).setCell ⟨b6, 3, none⟩ (.int .u64 p3)) = g58 at x58 rb658 ⊢
        (try simp only [Act.put])
        refine wpAnyH_done (by kernel_rfl) ?_ _
        go_wp2
        go_meet
        case rel => exact ⟨_, rfl, rb658, x58⟩
  case rest =>
    obtain ⟨b6, rfl, hR, hX⟩ := hcut
    have XC : Hid (Bx w [(w.heap.size + 1 + 1 + 1, 0, 0, 0, 0), (w.heap.size + 1 + 1, c0, c1, c2, c3), (w.heap.size + 1, b0, b1, b2, b3), (w.heap.size, a0, a1, a2, a3)] wc) := hX
    obtain ⟨h0, h1, h2, h3, _⟩ := Box.facts hR
    obtain ⟨k0, k1, k2, k3, f0, f1, f2, f3⟩ := hX.f0 mm0
    clear hR hX DV X1 PR
    go_wp2
    refine bodyPost_ret (v := .agg #[.int .u64 p0, .int .u64 p1, .int .u64 p2, .int .u64 p3]) ?_ rfl ⟨rfl, below_put XC.out.bel (by omega) p0 p1 p2 p3⟩
    exact results_c Tryz.results36 _ _ _ ⟨w.heap.size + 1 + 1 + 1, 0, none⟩ rfl (loadVar4 (Box.put (XC.out.box _ mm0) p0 p1 p2 p3))
end Go.Proofs.YtpadpmkfhljiiaaGreat
