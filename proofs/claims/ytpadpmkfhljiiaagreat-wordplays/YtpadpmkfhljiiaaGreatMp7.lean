/- Div and Mod, their words named ahead. -/
import Derived.Test.YtpadpmkfhljiiaaGreatMp6
namespace Go.Proofs.YtpadpmkfhljiiaaGreat
open Go.RowKit
/-- a block of its own is written -/
theorem D3.cells {w W : World} {a0 a1 a2 a3 b0 b1 b2 b3 : Int} (h : D3 w a0 a1 a2 a3 b0 b1 b2 b3 W) (c o : Nat) (vs : List Value) (hc : w.heap.size + 1 + 1 < c) : D3 w a0 a1 a2 a3 b0 b1 b2 b3 (W.setCells c o vs) :=
  ⟨below_setCells c (by omega) vs o W h.bel, Box.set_others (by omega) vs o h.ba, Box.set_others (by omega) vs o h.bb, Box.set_others (by omega) vs o h.br⟩
theorem D3.drew {w W : World} {a0 a1 a2 a3 b0 b1 b2 b3 : Int} (h : D3 w a0 a1 a2 a3 b0 b1 b2 b3 W) : D3 w a0 a1 a2 a3 b0 b1 b2 b3 W.drew := ⟨h.bel.drew, h.ba.drew, h.bb.drew, h.br.drew⟩
theorem Box.cells {W : World} {b : Nat} {a0 a1 a2 a3 : Int} (h : Box W b a0 a1 a2 a3) (c o : Nat) (vs : List Value) (hc : c ≠ b) : Box (W.setCells c o vs) b a0 a1 a2 a3 := Box.set_others hc vs o h
set_option maxHeartbeats 4000000 in
set_option maxRecDepth 100000 in
theorem div_is (x y : Int) (a0 a1 a2 a3 b0 b1 b2 b3 z0 z1 z2 z3 : Int) (w : World) (ha : IsW x a0 a1 a2 a3) (hb : IsW y b0 b1 b2 b3) (hz : IsW (dv (x % MM) (y % MM)) z0 z1 z2 z3) :
    Calls Tryz.prog 17 #[.agg #[.int .u64 a0, .int .u64 a1, .int .u64 a2, .int .u64 a3], .agg #[.int .u64 b0, .int .u64 b1, .int .u64 b2, .int .u64 b3]] w fun e w' => e = .returned (.agg #[.int .u64 z0, .int .u64 z1, .int .u64 z2, .int .u64 z3]) ∧ Below w.heap.size w w' := by
  obtain ⟨p0, p1, p2, p3, hp⟩ := isW_ex (md (x % MM) (y % MM))
  have HZ : Hid (IsW (dv (x % MM) (y % MM)) z0 z1 z2 z3) := hz
  clear hz
  have DV : Hid (∀ W : World, Calls Tryz.prog 86 #[.agg (rowL 8 (oct a0 a1 a2 a3 0 0 0 0)).toArray, .agg #[.int .u64 b0, .int .u64 b1, .int .u64 b2, .int .u64 b3]] W fun e w' => DR (x % MM) (y % MM) p0 p1 p2 p3 e ∧ Below W.heap.size W w') := fun W => divide_p _ _ y b0 b1 b2 b3 p0 p1 p2 p3 (oct_u64 ha.u0 ha.u1 ha.u2 ha.u3 u64_0 u64_0 u64_0 u64_0) (by rw [oct_nv, ha.2]; simp [V]) hb hp W
  have MM0 : Hid (0 ≤ x % MM ∧ x % MM < MM) := ⟨Int.emod_nonneg _ (by have := MM_pos; omega), Int.emod_lt_of_pos _ MM_pos⟩
  have X0 : Hid _ := D3.new w a0 a1 a2 a3 b0 b1 b2 b3
  clear ha hb hp
  go_enter Tryz.func17, Tryz.ntmps17
  go_wp2_with fail
  generalize (((w.alloc (.cells #[.int .u64 a0, .int .u64 a1, .int .u64 a2, .int .u64 a3] 24)).alloc (.cells #[.int .u64 b0, .int .u64 b1, .int .u64 b2, .int .u64 b3] 24)).alloc (.cells #[.int .u64 0, .int .u64 0, .int .u64 0, .int .u64 0] 24)) = w3 at X0 ⊢
  go_cut [5] (fun s5 wx => ∃ (b5 : Nat) (q : Nat → Int), s5 = .pointer (some ⟨b5, 0, none⟩) ∧ Row wx b5 8 q ∧ QF q (dv (x % MM) (y % MM)) ∧ D3 w a0 a1 a2 a3 b0 b1 b2 b3 wx)
  case first =>
    refine wp_region_held_drew (S := fun w' => D3 w a0 a1 a2 a3 b0 b1 b2 b3 w') (by kernel_rfl) X0.out.drew (fun hHeld => ?_)
    have g0e : True := trivial
    generalize w3.drew = g0 at hHeld ⊢
    clear X0 g0e
    refine wpAnyH_take (i := 0) (v := .agg #[.int .u64 a0, .int .u64 a1, .int .u64 a2, .int .u64 a3]) op0 (by kernel_rfl) (by kernel_rfl) (by kernel_rfl) (fun _ _ _ h => h) (Or.inl ⟨by rfl, fun W hS => ?_⟩) hHeld ?_
    · obtain ⟨c0, c1, c2, c3, _⟩ := Box.facts hS.ba
      go_simp
    simp only [Act.put, List.setIfInBounds_toArray, List.set_cons_zero, List.set_cons_succ]
    refine wpAnyH_take (i := 2) (v := .agg #[.int .u64 b0, .int .u64 b1, .int .u64 b2, .int .u64 b3]) op2 (by kernel_rfl) (by kernel_rfl) (by kernel_rfl) (fun _ _ _ h => h) (Or.inl ⟨by rfl, fun W hS => ?_⟩) hHeld ?_
    · obtain ⟨c0, c1, c2, c3, _⟩ := Box.facts hS.bb
      go_simp
    simp only [Act.put, List.setIfInBounds_toArray, List.set_cons_zero, List.set_cons_succ]
    refine wpAnyH_ready (rs := [1, 7, 8]) (by kernel_rfl) (by simp) ?_
    refine AllReadyH.cons op1 (fun K hK => ?_) (AllReadyH.cons op7 (fun K hK => ?_) (AllReadyH.cons op8 (fun K hK => ?_) AllReadyH.nil))
    · rw [if_pos (by rfl)]
      go_simp
      refine (widen_is a0 a1 a2 a3 _).mono ?_
      rintro e g1 ⟨rfl, hB⟩
      have x1 : D3 w a0 a1 a2 a3 b0 b1 b2 b3 g1 := hHeld.past hB
      clear hB hHeld 
      (try go_wp2_with fail)
      refine hK.out _ _ x1 (fun _ => ?_)
      clear hK K
      refine wpAnyH_ready (rs := [3, 7, 8]) (by kernel_rfl) (by simp) ?_
      refine AllReadyH.cons op3 (fun K hK => ?_) (AllReadyH.cons op7 (fun K hK => ?_) (AllReadyH.cons op8 (fun K hK => ?_) AllReadyH.nil))
      · rw [if_pos (by rfl)]
        go_simp
        refine (DV.out _).mono ?_
        rintro e g2 ⟨⟨q, rfl, hq⟩, hB⟩
        have x2 : D3 w a0 a1 a2 a3 b0 b1 b2 b3 g2 := x1.past hB
        clear hB x1 
        (try go_wp2_with fail)
        refine hK.out _ _ x2 (fun _ => ?_)
        clear hK K
        refine wpAnyH_take (i := 4) (v := .tuple #[.agg (rowL 8 q).toArray, .agg #[.int .u64 p0, .int .u64 p1, .int .u64 p2, .int .u64 p3]]) op4 (by kernel_rfl) (by kernel_rfl) (by kernel_rfl) (fun _ _ _ h => h) (Or.inl ⟨by rfl, fun W hS => ?_⟩) x2 ?_
        · go_simp
        simp only [Act.put, List.setIfInBounds_toArray, List.set_cons_zero, List.set_cons_succ]
        refine wpAnyH_take (i := 5) (v := .agg (rowL 8 q).toArray) op5 (by kernel_rfl) (by kernel_rfl) (by kernel_rfl) (fun _ _ _ h => h) (Or.inl ⟨by rfl, fun W hS => ?_⟩) x2 ?_
        · go_simp
        simp only [Act.put, List.setIfInBounds_toArray, List.set_cons_zero, List.set_cons_succ]
        refine wpAnyH_take (i := 6) (v := .agg #[.int .u64 p0, .int .u64 p1, .int .u64 p2, .int .u64 p3]) op6 (by kernel_rfl) (by kernel_rfl) (by kernel_rfl) (fun _ _ _ h => h) (Or.inl ⟨by rfl, fun W hS => ?_⟩) x2 ?_
        · go_simp
        simp only [Act.put, List.setIfInBounds_toArray, List.set_cons_zero, List.set_cons_succ]
        refine wpAnyH_ready (rs := [7, 8]) (by kernel_rfl) (by simp) ?_
        refine AllReadyH.cons op7 (fun K hK => ?_) (AllReadyH.cons op8 (fun K hK => ?_) AllReadyH.nil)
        · rw [if_pos (by rfl)]
          go_simp
          have x3 : D3 w a0 a1 a2 a3 b0 b1 b2 b3 (g2.alloc (.cells #[.int .u64 0, .int .u64 0, .int .u64 0, .int .u64 0, .int .u64 0, .int .u64 0, .int .u64 0, .int .u64 0] 69)) := x2.past ((Below.refl _ _).alloc (Nat.le_refl _) _)
          have lb5 : w.heap.size + 1 + 1 < g2.heap.size := Box.lt x2.br
          have rb53 : Row (g2.alloc (.cells #[.int .u64 0, .int .u64 0, .int .u64 0, .int .u64 0, .int .u64 0, .int .u64 0, .int .u64 0, .int .u64 0] 69)) g2.heap.size 8 (fun _ => 0) := by rw [zero8]; exact Row.new g2 69 8 _
          refine hK.out _ _ x3 (fun _ => ?_)
          clear hK K x2 
          generalize g2.alloc (.cells #[.int .u64 0, .int .u64 0, .int .u64 0, .int .u64 0, .int .u64 0, .int .u64 0, .int .u64 0, .int .u64 0] 69) = g3 at x3 rb53 ⊢
          generalize g2.heap.size = b5 at lb5  rb53 ⊢
          refine wpAnyH_ready (rs := [8]) (by kernel_rfl) (by simp) ?_
          refine AllReadyH.cons op8 (fun K hK => ?_) AllReadyH.nil
          rw [if_pos (by rfl)]
          go_simp
          have x4 : D3 w a0 a1 a2 a3 b0 b1 b2 b3 (g3.alloc (.cells #[.int .u64 0, .int .u64 0, .int .u64 0, .int .u64 0] 24)) := x3.past ((Below.refl _ _).alloc (Nat.le_refl _) _)
          have lb6 : w.heap.size + 1 + 1 < g3.heap.size := Box.lt x3.br
          have rb54 : Row (g3.alloc (.cells #[.int .u64 0, .int .u64 0, .int .u64 0, .int .u64 0] 24)) b5 8 (fun _ => 0) := Row.below rb53 ((Below.refl _ _).alloc (Nat.le_refl _) _) (Row.lt rb53 (by omega))
          have mb5b6 : b5 < g3.heap.size := Row.lt rb53 (by omega)
          have rb64 : Box (g3.alloc (.cells #[.int .u64 0, .int .u64 0, .int .u64 0, .int .u64 0] 24)) g3.heap.size 0 0 0 0 := Box.new g3 24 0 0 0 0
          refine hK.out _ _ x4 (fun _ => ?_)
          clear hK K x3 rb53
          generalize g3.alloc (.cells #[.int .u64 0, .int .u64 0, .int .u64 0, .int .u64 0] 24) = g4 at x4 rb54 rb64 ⊢
          generalize g3.heap.size = b6 at lb6 mb5b6 rb64 ⊢
          refine wpAnyH_ready (rs := [9]) (by kernel_rfl) (by simp) ?_
          refine AllReadyH.cons op9 (fun K hK => ?_) AllReadyH.nil
          rw [if_pos (by rfl)]
          refine wp_store_mid 69 _ _ rfl b5 0 (rowL 8 q).toArray rfl rfl (there_row rb54) (by rw [List.size_toArray, rowL_len]; kernel_rfl) (rowL_one 8 q) ?_
          show K _ (g4.setCells b5 0 (rowL 8 q))
          have x5 : D3 w a0 a1 a2 a3 b0 b1 b2 b3 (g4.setCells b5 0 (rowL 8 q)) := x4.cells _ _ _ lb5
          have rb55 : Row (g4.setCells b5 0 (rowL 8 q)) b5 8 q := Row.of_range rb54
          have rb65 : Box (g4.setCells b5 0 (rowL 8 q)) b6 0 0 0 0 := Box.cells rb64 _ _ _ (by omega)
          refine hK.out _ _ x5 (fun _ => ?_)
          clear hK K x4 rb54 rb64
          generalize g4.setCells b5 0 (rowL 8 q) = g5 at x5 rb55 rb65 ⊢
          simp only [Act.put]
          refine wpAnyH_ready (rs := [10]) (by kernel_rfl) (by simp) ?_
          refine AllReadyH.cons op10 (fun K hK => ?_) AllReadyH.nil
          rw [if_pos (by rfl)]
          obtain ⟨c0, c1, c2, c3, f0, f1, f2, f3⟩ := Box.facts rb65
          go_simp
          have x6 : D3 w a0 a1 a2 a3 b0 b1 b2 b3 ((((g5.setCell ⟨b6, 0, none⟩ (.int .u64 p0)).setCell ⟨b6, 1, none⟩ (.int .u64 p1)).setCell ⟨b6, 2, none⟩ (.int .u64 p2)).setCell ⟨b6, 3, none⟩ (.int .u64 p3)) := x5.cells b6 0 [_, _, _, _] lb6
          have rb56 : Row ((((g5.setCell ⟨b6, 0, none⟩ (.int .u64 p0)).setCell ⟨b6, 1, none⟩ (.int .u64 p1)).setCell ⟨b6, 2, none⟩ (.int .u64 p2)).setCell ⟨b6, 3, none⟩ (.int .u64 p3)) b5 8 q := Row.set_others (c := b6) (by omega) [_, _, _, _] 0 rb55
          have rb66 : Box ((((g5.setCell ⟨b6, 0, none⟩ (.int .u64 p0)).setCell ⟨b6, 1, none⟩ (.int .u64 p1)).setCell ⟨b6, 2, none⟩ (.int .u64 p2)).setCell ⟨b6, 3, none⟩ (.int .u64 p3)) b6 p0 p1 p2 p3 := Box.put rb65 p0 p1 p2 p3
          refine hK.out _ _ x6 (fun _ => ?_)
          clear hK K c0 c1 c2 c3 f0 f1 f2 f3 x5 rb55 rb65
          generalize ((((g5.setCell ⟨b6, 0, none⟩ (.int .u64 p0)).setCell ⟨b6, 1, none⟩ (.int .u64 p1)).setCell ⟨b6, 2, none⟩ (.int .u64 p2)).setCell ⟨b6, 3, none⟩ (.int .u64 p3)) = g6 at x6 rb56 rb66 ⊢
          (try simp only [Act.put])
          refine wpAnyH_done (by kernel_rfl) ?_ _
          go_wp2
          go_meet
          case rel => exact ⟨_, q, rfl, rb56, hq, x6⟩
        · rw [if_pos (by rfl)]
          go_simp
          have x7 : D3 w a0 a1 a2 a3 b0 b1 b2 b3 (g2.alloc (.cells #[.int .u64 0, .int .u64 0, .int .u64 0, .int .u64 0] 24)) := x2.past ((Below.refl _ _).alloc (Nat.le_refl _) _)
          have lb6 : w.heap.size + 1 + 1 < g2.heap.size := Box.lt x2.br
          have rb67 : Box (g2.alloc (.cells #[.int .u64 0, .int .u64 0, .int .u64 0, .int .u64 0] 24)) g2.heap.size 0 0 0 0 := Box.new g2 24 0 0 0 0
          refine hK.out _ _ x7 (fun _ => ?_)
          clear hK K x2 
          generalize g2.alloc (.cells #[.int .u64 0, .int .u64 0, .int .u64 0, .int .u64 0] 24) = g7 at x7 rb67 ⊢
          generalize g2.heap.size = b6 at lb6  rb67 ⊢
          refine wpAnyH_ready (rs := [7]) (by kernel_rfl) (by simp) ?_
          refine AllReadyH.cons op7 (fun K hK => ?_) AllReadyH.nil
          rw [if_pos (by rfl)]
          go_simp
          have x8 : D3 w a0 a1 a2 a3 b0 b1 b2 b3 (g7.alloc (.cells #[.int .u64 0, .int .u64 0, .int .u64 0, .int .u64 0, .int .u64 0, .int .u64 0, .int .u64 0, .int .u64 0] 69)) := x7.past ((Below.refl _ _).alloc (Nat.le_refl _) _)
          have lb5 : w.heap.size + 1 + 1 < g7.heap.size := Box.lt x7.br
          have rb68 : Box (g7.alloc (.cells #[.int .u64 0, .int .u64 0, .int .u64 0, .int .u64 0, .int .u64 0, .int .u64 0, .int .u64 0, .int .u64 0] 69)) b6 0 0 0 0 := Box.below rb67 ((Below.refl _ _).alloc (Nat.le_refl _) _) (Box.lt rb67)
          have mb6b5 : b6 < g7.heap.size := Box.lt rb67
          have rb58 : Row (g7.alloc (.cells #[.int .u64 0, .int .u64 0, .int .u64 0, .int .u64 0, .int .u64 0, .int .u64 0, .int .u64 0, .int .u64 0] 69)) g7.heap.size 8 (fun _ => 0) := by rw [zero8]; exact Row.new g7 69 8 _
          refine hK.out _ _ x8 (fun _ => ?_)
          clear hK K x7 rb67
          generalize g7.alloc (.cells #[.int .u64 0, .int .u64 0, .int .u64 0, .int .u64 0, .int .u64 0, .int .u64 0, .int .u64 0, .int .u64 0] 69) = g8 at x8 rb68 rb58 ⊢
          generalize g7.heap.size = b5 at lb5 mb6b5 rb58 ⊢
          refine wpAnyH_ready (rs := [9]) (by kernel_rfl) (by simp) ?_
          refine AllReadyH.cons op9 (fun K hK => ?_) AllReadyH.nil
          rw [if_pos (by rfl)]
          refine wp_store_mid 69 _ _ rfl b5 0 (rowL 8 q).toArray rfl rfl (there_row rb58) (by rw [List.size_toArray, rowL_len]; kernel_rfl) (rowL_one 8 q) ?_
          show K _ (g8.setCells b5 0 (rowL 8 q))
          have x9 : D3 w a0 a1 a2 a3 b0 b1 b2 b3 (g8.setCells b5 0 (rowL 8 q)) := x8.cells _ _ _ lb5
          have rb69 : Box (g8.setCells b5 0 (rowL 8 q)) b6 0 0 0 0 := Box.cells rb68 _ _ _ (by omega)
          have rb59 : Row (g8.setCells b5 0 (rowL 8 q)) b5 8 q := Row.of_range rb58
          refine hK.out _ _ x9 (fun _ => ?_)
          clear hK K x8 rb68 rb58
          generalize g8.setCells b5 0 (rowL 8 q) = g9 at x9 rb69 rb59 ⊢
          simp only [Act.put]
          refine wpAnyH_ready (rs := [10]) (by kernel_rfl) (by simp) ?_
          refine AllReadyH.cons op10 (fun K hK => ?_) AllReadyH.nil
          rw [if_pos (by rfl)]
          obtain ⟨c0, c1, c2, c3, f0, f1, f2, f3⟩ := Box.facts rb69
          go_simp
          have x10 : D3 w a0 a1 a2 a3 b0 b1 b2 b3 ((((g9.setCell ⟨b6, 0, none⟩ (.int .u64 p0)).setCell ⟨b6, 1, none⟩ (.int .u64 p1)).setCell ⟨b6, 2, none⟩ (.int .u64 p2)).setCell ⟨b6, 3, none⟩ (.int .u64 p3)) := x9.cells b6 0 [_, _, _, _] lb6
          have rb610 : Box ((((g9.setCell ⟨b6, 0, none⟩ (.int .u64 p0)).setCell ⟨b6, 1, none⟩ (.int .u64 p1)).setCell ⟨b6, 2, none⟩ (.int .u64 p2)).setCell ⟨b6, 3, none⟩ (.int .u64 p3)) b6 p0 p1 p2 p3 := Box.put rb69 p0 p1 p2 p3
          have rb510 : Row ((((g9.setCell ⟨b6, 0, none⟩ (.int .u64 p0)).setCell ⟨b6, 1, none⟩ (.int .u64 p1)).setCell ⟨b6, 2, none⟩ (.int .u64 p2)).setCell ⟨b6, 3, none⟩ (.int .u64 p3)) b5 8 q := Row.set_others (c := b6) (by omega) [_, _, _, _] 0 rb59
          refine hK.out _ _ x10 (fun _ => ?_)
          clear hK K c0 c1 c2 c3 f0 f1 f2 f3 x9 rb69 rb59
          generalize ((((g9.setCell ⟨b6, 0, none⟩ (.int .u64 p0)).setCell ⟨b6, 1, none⟩ (.int .u64 p1)).setCell ⟨b6, 2, none⟩ (.int .u64 p2)).setCell ⟨b6, 3, none⟩ (.int .u64 p3)) = g10 at x10 rb610 rb510 ⊢
          (try simp only [Act.put])
          refine wpAnyH_done (by kernel_rfl) ?_ _
          go_wp2
          go_meet
          case rel => exact ⟨_, q, rfl, rb510, hq, x10⟩
      · rw [if_pos (by rfl)]
        go_simp
        have x11 : D3 w a0 a1 a2 a3 b0 b1 b2 b3 (g1.alloc (.cells #[.int .u64 0, .int .u64 0, .int .u64 0, .int .u64 0, .int .u64 0, .int .u64 0, .int .u64 0, .int .u64 0] 69)) := x1.past ((Below.refl _ _).alloc (Nat.le_refl _) _)
        have lb5 : w.heap.size + 1 + 1 < g1.heap.size := Box.lt x1.br
        have rb511 : Row (g1.alloc (.cells #[.int .u64 0, .int .u64 0, .int .u64 0, .int .u64 0, .int .u64 0, .int .u64 0, .int .u64 0, .int .u64 0] 69)) g1.heap.size 8 (fun _ => 0) := by rw [zero8]; exact Row.new g1 69 8 _
        refine hK.out _ _ x11 (fun _ => ?_)
        clear hK K x1 
        generalize g1.alloc (.cells #[.int .u64 0, .int .u64 0, .int .u64 0, .int .u64 0, .int .u64 0, .int .u64 0, .int .u64 0, .int .u64 0] 69) = g11 at x11 rb511 ⊢
        generalize g1.heap.size = b5 at lb5  rb511 ⊢
        refine wpAnyH_ready (rs := [3, 8]) (by kernel_rfl) (by simp) ?_
        refine AllReadyH.cons op3 (fun K hK => ?_) (AllReadyH.cons op8 (fun K hK => ?_) AllReadyH.nil)
        · rw [if_pos (by rfl)]
          go_simp
          refine (DV.out _).mono ?_
          rintro e g12 ⟨⟨q, rfl, hq⟩, hB⟩
          have x12 : D3 w a0 a1 a2 a3 b0 b1 b2 b3 g12 := x11.past hB
          have rb512 : Row g12 b5 8 (fun _ => 0) := Row.below rb511 hB (Row.lt rb511 (by omega))
          clear hB x11 rb511
          (try go_wp2_with fail)
          refine hK.out _ _ x12 (fun _ => ?_)
          clear hK K
          refine wpAnyH_take (i := 4) (v := .tuple #[.agg (rowL 8 q).toArray, .agg #[.int .u64 p0, .int .u64 p1, .int .u64 p2, .int .u64 p3]]) op4 (by kernel_rfl) (by kernel_rfl) (by kernel_rfl) (fun _ _ _ h => h) (Or.inl ⟨by rfl, fun W hS => ?_⟩) x12 ?_
          · go_simp
          simp only [Act.put, List.setIfInBounds_toArray, List.set_cons_zero, List.set_cons_succ]
          refine wpAnyH_take (i := 5) (v := .agg (rowL 8 q).toArray) op5 (by kernel_rfl) (by kernel_rfl) (by kernel_rfl) (fun _ _ _ h => h) (Or.inl ⟨by rfl, fun W hS => ?_⟩) x12 ?_
          · go_simp
          simp only [Act.put, List.setIfInBounds_toArray, List.set_cons_zero, List.set_cons_succ]
          refine wpAnyH_take (i := 6) (v := .agg #[.int .u64 p0, .int .u64 p1, .int .u64 p2, .int .u64 p3]) op6 (by kernel_rfl) (by kernel_rfl) (by kernel_rfl) (fun _ _ _ h => h) (Or.inl ⟨by rfl, fun W hS => ?_⟩) x12 ?_
          · go_simp
          simp only [Act.put, List.setIfInBounds_toArray, List.set_cons_zero, List.set_cons_succ]
          refine wpAnyH_ready (rs := [8]) (by kernel_rfl) (by simp) ?_
          refine AllReadyH.cons op8 (fun K hK => ?_) AllReadyH.nil
          rw [if_pos (by rfl)]
          go_simp
          have x13 : D3 w a0 a1 a2 a3 b0 b1 b2 b3 (g12.alloc (.cells #[.int .u64 0, .int .u64 0, .int .u64 0, .int .u64 0] 24)) := x12.past ((Below.refl _ _).alloc (Nat.le_refl _) _)
          have lb6 : w.heap.size + 1 + 1 < g12.heap.size := Box.lt x12.br
          have rb513 : Row (g12.alloc (.cells #[.int .u64 0, .int .u64 0, .int .u64 0, .int .u64 0] 24)) b5 8 (fun _ => 0) := Row.below rb512 ((Below.refl _ _).alloc (Nat.le_refl _) _) (Row.lt rb512 (by omega))
          have mb5b6 : b5 < g12.heap.size := Row.lt rb512 (by omega)
          have rb613 : Box (g12.alloc (.cells #[.int .u64 0, .int .u64 0, .int .u64 0, .int .u64 0] 24)) g12.heap.size 0 0 0 0 := Box.new g12 24 0 0 0 0
          refine hK.out _ _ x13 (fun _ => ?_)
          clear hK K x12 rb512
          generalize g12.alloc (.cells #[.int .u64 0, .int .u64 0, .int .u64 0, .int .u64 0] 24) = g13 at x13 rb513 rb613 ⊢
          generalize g12.heap.size = b6 at lb6 mb5b6 rb613 ⊢
          refine wpAnyH_ready (rs := [9]) (by kernel_rfl) (by simp) ?_
          refine AllReadyH.cons op9 (fun K hK => ?_) AllReadyH.nil
          rw [if_pos (by rfl)]
          refine wp_store_mid 69 _ _ rfl b5 0 (rowL 8 q).toArray rfl rfl (there_row rb513) (by rw [List.size_toArray, rowL_len]; kernel_rfl) (rowL_one 8 q) ?_
          show K _ (g13.setCells b5 0 (rowL 8 q))
          have x14 : D3 w a0 a1 a2 a3 b0 b1 b2 b3 (g13.setCells b5 0 (rowL 8 q)) := x13.cells _ _ _ lb5
          have rb514 : Row (g13.setCells b5 0 (rowL 8 q)) b5 8 q := Row.of_range rb513
          have rb614 : Box (g13.setCells b5 0 (rowL 8 q)) b6 0 0 0 0 := Box.cells rb613 _ _ _ (by omega)
          refine hK.out _ _ x14 (fun _ => ?_)
          clear hK K x13 rb513 rb613
          generalize g13.setCells b5 0 (rowL 8 q) = g14 at x14 rb514 rb614 ⊢
          simp only [Act.put]
          refine wpAnyH_ready (rs := [10]) (by kernel_rfl) (by simp) ?_
          refine AllReadyH.cons op10 (fun K hK => ?_) AllReadyH.nil
          rw [if_pos (by rfl)]
          obtain ⟨c0, c1, c2, c3, f0, f1, f2, f3⟩ := Box.facts rb614
          go_simp
          have x15 : D3 w a0 a1 a2 a3 b0 b1 b2 b3 ((((g14.setCell ⟨b6, 0, none⟩ (.int .u64 p0)).setCell ⟨b6, 1, none⟩ (.int .u64 p1)).setCell ⟨b6, 2, none⟩ (.int .u64 p2)).setCell ⟨b6, 3, none⟩ (.int .u64 p3)) := x14.cells b6 0 [_, _, _, _] lb6
          have rb515 : Row ((((g14.setCell ⟨b6, 0, none⟩ (.int .u64 p0)).setCell ⟨b6, 1, none⟩ (.int .u64 p1)).setCell ⟨b6, 2, none⟩ (.int .u64 p2)).setCell ⟨b6, 3, none⟩ (.int .u64 p3)) b5 8 q := Row.set_others (c := b6) (by omega) [_, _, _, _] 0 rb514
          have rb615 : Box ((((g14.setCell ⟨b6, 0, none⟩ (.int .u64 p0)).setCell ⟨b6, 1, none⟩ (.int .u64 p1)).setCell ⟨b6, 2, none⟩ (.int .u64 p2)).setCell ⟨b6, 3, none⟩ (.int .u64 p3)) b6 p0 p1 p2 p3 := Box.put rb614 p0 p1 p2 p3
          refine hK.out _ _ x15 (fun _ => ?_)
          clear hK K c0 c1 c2 c3 f0 f1 f2 f3 x14 rb514 rb614
          generalize ((((g14.setCell ⟨b6, 0, none⟩ (.int .u64 p0)).setCell ⟨b6, 1, none⟩ (.int .u64 p1)).setCell ⟨b6, 2, none⟩ (.int .u64 p2)).setCell ⟨b6, 3, none⟩ (.int .u64 p3)) = g15 at x15 rb515 rb615 ⊢
          (try simp only [Act.put])
          refine wpAnyH_done (by kernel_rfl) ?_ _
          go_wp2
          go_meet
          case rel => exact ⟨_, q, rfl, rb515, hq, x15⟩
        · rw [if_pos (by rfl)]
          go_simp
          have x16 : D3 w a0 a1 a2 a3 b0 b1 b2 b3 (g11.alloc (.cells #[.int .u64 0, .int .u64 0, .int .u64 0, .int .u64 0] 24)) := x11.past ((Below.refl _ _).alloc (Nat.le_refl _) _)
          have lb6 : w.heap.size + 1 + 1 < g11.heap.size := Box.lt x11.br
          have rb516 : Row (g11.alloc (.cells #[.int .u64 0, .int .u64 0, .int .u64 0, .int .u64 0] 24)) b5 8 (fun _ => 0) := Row.below rb511 ((Below.refl _ _).alloc (Nat.le_refl _) _) (Row.lt rb511 (by omega))
          have mb5b6 : b5 < g11.heap.size := Row.lt rb511 (by omega)
          have rb616 : Box (g11.alloc (.cells #[.int .u64 0, .int .u64 0, .int .u64 0, .int .u64 0] 24)) g11.heap.size 0 0 0 0 := Box.new g11 24 0 0 0 0
          refine hK.out _ _ x16 (fun _ => ?_)
          clear hK K x11 rb511
          generalize g11.alloc (.cells #[.int .u64 0, .int .u64 0, .int .u64 0, .int .u64 0] 24) = g16 at x16 rb516 rb616 ⊢
          generalize g11.heap.size = b6 at lb6 mb5b6 rb616 ⊢
          refine wpAnyH_ready (rs := [3]) (by kernel_rfl) (by simp) ?_
          refine AllReadyH.cons op3 (fun K hK => ?_) AllReadyH.nil
          rw [if_pos (by rfl)]
          go_simp
          refine (DV.out _).mono ?_
          rintro e g17 ⟨⟨q, rfl, hq⟩, hB⟩
          have x17 : D3 w a0 a1 a2 a3 b0 b1 b2 b3 g17 := x16.past hB
          have rb517 : Row g17 b5 8 (fun _ => 0) := Row.below rb516 hB (Row.lt rb516 (by omega))
          have rb617 : Box g17 b6 0 0 0 0 := Box.below rb616 hB (Box.lt rb616)
          clear hB x16 rb516 rb616
          (try go_wp2_with fail)
          refine hK.out _ _ x17 (fun _ => ?_)
          clear hK K
          refine wpAnyH_take (i := 4) (v := .tuple #[.agg (rowL 8 q).toArray, .agg #[.int .u64 p0, .int .u64 p1, .int .u64 p2, .int .u64 p3]]) op4 (by kernel_rfl) (by kernel_rfl) (by kernel_rfl) (fun _ _ _ h => h) (Or.inl ⟨by rfl, fun W hS => ?_⟩) x17 ?_
          · go_simp
          simp only [Act.put, List.setIfInBounds_toArray, List.set_cons_zero, List.set_cons_succ]
          refine wpAnyH_take (i := 5) (v := .agg (rowL 8 q).toArray) op5 (by kernel_rfl) (by kernel_rfl) (by kernel_rfl) (fun _ _ _ h => h) (Or.inl ⟨by rfl, fun W hS => ?_⟩) x17 ?_
          · go_simp
          simp only [Act.put, List.setIfInBounds_toArray, List.set_cons_zero, List.set_cons_succ]
          refine wpAnyH_take (i := 6) (v := .agg #[.int .u64 p0, .int .u64 p1, .int .u64 p2, .int .u64 p3]) op6 (by kernel_rfl) (by kernel_rfl) (by kernel_rfl) (fun _ _ _ h => h) (Or.inl ⟨by rfl, fun W hS => ?_⟩) x17 ?_
          · go_simp
          simp only [Act.put, List.setIfInBounds_toArray, List.set_cons_zero, List.set_cons_succ]
          refine wpAnyH_ready (rs := [9]) (by kernel_rfl) (by simp) ?_
          refine AllReadyH.cons op9 (fun K hK => ?_) AllReadyH.nil
          rw [if_pos (by rfl)]
          refine wp_store_mid 69 _ _ rfl b5 0 (rowL 8 q).toArray rfl rfl (there_row rb517) (by rw [List.size_toArray, rowL_len]; kernel_rfl) (rowL_one 8 q) ?_
          show K _ (g17.setCells b5 0 (rowL 8 q))
          have x18 : D3 w a0 a1 a2 a3 b0 b1 b2 b3 (g17.setCells b5 0 (rowL 8 q)) := x17.cells _ _ _ lb5
          have rb518 : Row (g17.setCells b5 0 (rowL 8 q)) b5 8 q := Row.of_range rb517
          have rb618 : Box (g17.setCells b5 0 (rowL 8 q)) b6 0 0 0 0 := Box.cells rb617 _ _ _ (by omega)
          refine hK.out _ _ x18 (fun _ => ?_)
          clear hK K x17 rb517 rb617
          generalize g17.setCells b5 0 (rowL 8 q) = g18 at x18 rb518 rb618 ⊢
          simp only [Act.put]
          refine wpAnyH_ready (rs := [10]) (by kernel_rfl) (by simp) ?_
          refine AllReadyH.cons op10 (fun K hK => ?_) AllReadyH.nil
          rw [if_pos (by rfl)]
          obtain ⟨c0, c1, c2, c3, f0, f1, f2, f3⟩ := Box.facts rb618
          go_simp
          have x19 : D3 w a0 a1 a2 a3 b0 b1 b2 b3 ((((g18.setCell ⟨b6, 0, none⟩ (.int .u64 p0)).setCell ⟨b6, 1, none⟩ (.int .u64 p1)).setCell ⟨b6, 2, none⟩ (.int .u64 p2)).setCell ⟨b6, 3, none⟩ (.int .u64 p3)) := x18.cells b6 0 [_, _, _, _] lb6
          have rb519 : Row ((((g18.setCell ⟨b6, 0, none⟩ (.int .u64 p0)).setCell ⟨b6, 1, none⟩ (.int .u64 p1)).setCell ⟨b6, 2, none⟩ (.int .u64 p2)).setCell ⟨b6, 3, none⟩ (.int .u64 p3)) b5 8 q := Row.set_others (c := b6) (by omega) [_, _, _, _] 0 rb518
          have rb619 : Box ((((g18.setCell ⟨b6, 0, none⟩ (.int .u64 p0)).setCell ⟨b6, 1, none⟩ (.int .u64 p1)).setCell ⟨b6, 2, none⟩ (.int .u64 p2)).setCell ⟨b6, 3, none⟩ (.int .u64 p3)) b6 p0 p1 p2 p3 := Box.put rb618 p0 p1 p2 p3
          refine hK.out _ _ x19 (fun _ => ?_)
          clear hK K c0 c1 c2 c3 f0 f1 f2 f3 x18 rb518 rb618
          generalize ((((g18.setCell ⟨b6, 0, none⟩ (.int .u64 p0)).setCell ⟨b6, 1, none⟩ (.int .u64 p1)).setCell ⟨b6, 2, none⟩ (.int .u64 p2)).setCell ⟨b6, 3, none⟩ (.int .u64 p3)) = g19 at x19 rb519 rb619 ⊢
          (try simp only [Act.put])
          refine wpAnyH_done (by kernel_rfl) ?_ _
          go_wp2
          go_meet
          case rel => exact ⟨_, q, rfl, rb519, hq, x19⟩
      · rw [if_pos (by rfl)]
        go_simp
        have x20 : D3 w a0 a1 a2 a3 b0 b1 b2 b3 (g1.alloc (.cells #[.int .u64 0, .int .u64 0, .int .u64 0, .int .u64 0] 24)) := x1.past ((Below.refl _ _).alloc (Nat.le_refl _) _)
        have lb6 : w.heap.size + 1 + 1 < g1.heap.size := Box.lt x1.br
        have rb620 : Box (g1.alloc (.cells #[.int .u64 0, .int .u64 0, .int .u64 0, .int .u64 0] 24)) g1.heap.size 0 0 0 0 := Box.new g1 24 0 0 0 0
        refine hK.out _ _ x20 (fun _ => ?_)
        clear hK K x1 
        generalize g1.alloc (.cells #[.int .u64 0, .int .u64 0, .int .u64 0, .int .u64 0] 24) = g20 at x20 rb620 ⊢
        generalize g1.heap.size = b6 at lb6  rb620 ⊢
        refine wpAnyH_ready (rs := [3, 7]) (by kernel_rfl) (by simp) ?_
        refine AllReadyH.cons op3 (fun K hK => ?_) (AllReadyH.cons op7 (fun K hK => ?_) AllReadyH.nil)
        · rw [if_pos (by rfl)]
          go_simp
          refine (DV.out _).mono ?_
          rintro e g21 ⟨⟨q, rfl, hq⟩, hB⟩
          have x21 : D3 w a0 a1 a2 a3 b0 b1 b2 b3 g21 := x20.past hB
          have rb621 : Box g21 b6 0 0 0 0 := Box.below rb620 hB (Box.lt rb620)
          clear hB x20 rb620
          (try go_wp2_with fail)
          refine hK.out _ _ x21 (fun _ => ?_)
          clear hK K
          refine wpAnyH_take (i := 4) (v := .tuple #[.agg (rowL 8 q).toArray, .agg #[.int .u64 p0, .int .u64 p1, .int .u64 p2, .int .u64 p3]]) op4 (by kernel_rfl) (by kernel_rfl) (by kernel_rfl) (fun _ _ _ h => h) (Or.inl ⟨by rfl, fun W hS => ?_⟩) x21 ?_
          · go_simp
          simp only [Act.put, List.setIfInBounds_toArray, List.set_cons_zero, List.set_cons_succ]
          refine wpAnyH_take (i := 5) (v := .agg (rowL 8 q).toArray) op5 (by kernel_rfl) (by kernel_rfl) (by kernel_rfl) (fun _ _ _ h => h) (Or.inl ⟨by rfl, fun W hS => ?_⟩) x21 ?_
          · go_simp
          simp only [Act.put, List.setIfInBounds_toArray, List.set_cons_zero, List.set_cons_succ]
          refine wpAnyH_take (i := 6) (v := .agg #[.int .u64 p0, .int .u64 p1, .int .u64 p2, .int .u64 p3]) op6 (by kernel_rfl) (by kernel_rfl) (by kernel_rfl) (fun _ _ _ h => h) (Or.inl ⟨by rfl, fun W hS => ?_⟩) x21 ?_
          · go_simp
          simp only [Act.put, List.setIfInBounds_toArray, List.set_cons_zero, List.set_cons_succ]
          refine wpAnyH_ready (rs := [7]) (by kernel_rfl) (by simp) ?_
          refine AllReadyH.cons op7 (fun K hK => ?_) AllReadyH.nil
          rw [if_pos (by rfl)]
          go_simp
          have x22 : D3 w a0 a1 a2 a3 b0 b1 b2 b3 (g21.alloc (.cells #[.int .u64 0, .int .u64 0, .int .u64 0, .int .u64 0, .int .u64 0, .int .u64 0, .int .u64 0, .int .u64 0] 69)) := x21.past ((Below.refl _ _).alloc (Nat.le_refl _) _)
          have lb5 : w.heap.size + 1 + 1 < g21.heap.size := Box.lt x21.br
          have rb622 : Box (g21.alloc (.cells #[.int .u64 0, .int .u64 0, .int .u64 0, .int .u64 0, .int .u64 0, .int .u64 0, .int .u64 0, .int .u64 0] 69)) b6 0 0 0 0 := Box.below rb621 ((Below.refl _ _).alloc (Nat.le_refl _) _) (Box.lt rb621)
          have mb6b5 : b6 < g21.heap.size := Box.lt rb621
          have rb522 : Row (g21.alloc (.cells #[.int .u64 0, .int .u64 0, .int .u64 0, .int .u64 0, .int .u64 0, .int .u64 0, .int .u64 0, .int .u64 0] 69)) g21.heap.size 8 (fun _ => 0) := by rw [zero8]; exact Row.new g21 69 8 _
          refine hK.out _ _ x22 (fun _ => ?_)
          clear hK K x21 rb621
          generalize g21.alloc (.cells #[.int .u64 0, .int .u64 0, .int .u64 0, .int .u64 0, .int .u64 0, .int .u64 0, .int .u64 0, .int .u64 0] 69) = g22 at x22 rb622 rb522 ⊢
          generalize g21.heap.size = b5 at lb5 mb6b5 rb522 ⊢
          refine wpAnyH_ready (rs := [9]) (by kernel_rfl) (by simp) ?_
          refine AllReadyH.cons op9 (fun K hK => ?_) AllReadyH.nil
          rw [if_pos (by rfl)]
          refine wp_store_mid 69 _ _ rfl b5 0 (rowL 8 q).toArray rfl rfl (there_row rb522) (by rw [List.size_toArray, rowL_len]; kernel_rfl) (rowL_one 8 q) ?_
          show K _ (g22.setCells b5 0 (rowL 8 q))
          have x23 : D3 w a0 a1 a2 a3 b0 b1 b2 b3 (g22.setCells b5 0 (rowL 8 q)) := x22.cells _ _ _ lb5
          have rb623 : Box (g22.setCells b5 0 (rowL 8 q)) b6 0 0 0 0 := Box.cells rb622 _ _ _ (by omega)
          have rb523 : Row (g22.setCells b5 0 (rowL 8 q)) b5 8 q := Row.of_range rb522
          refine hK.out _ _ x23 (fun _ => ?_)
          clear hK K x22 rb622 rb522
          generalize g22.setCells b5 0 (rowL 8 q) = g23 at x23 rb623 rb523 ⊢
          simp only [Act.put]
          refine wpAnyH_ready (rs := [10]) (by kernel_rfl) (by simp) ?_
          refine AllReadyH.cons op10 (fun K hK => ?_) AllReadyH.nil
          rw [if_pos (by rfl)]
          obtain ⟨c0, c1, c2, c3, f0, f1, f2, f3⟩ := Box.facts rb623
          go_simp
          have x24 : D3 w a0 a1 a2 a3 b0 b1 b2 b3 ((((g23.setCell ⟨b6, 0, none⟩ (.int .u64 p0)).setCell ⟨b6, 1, none⟩ (.int .u64 p1)).setCell ⟨b6, 2, none⟩ (.int .u64 p2)).setCell ⟨b6, 3, none⟩ (.int .u64 p3)) := x23.cells b6 0 [_, _, _, _] lb6
          have rb624 : Box ((((g23.setCell ⟨b6, 0, none⟩ (.int .u64 p0)).setCell ⟨b6, 1, none⟩ (.int .u64 p1)).setCell ⟨b6, 2, none⟩ (.int .u64 p2)).setCell ⟨b6, 3, none⟩ (.int .u64 p3)) b6 p0 p1 p2 p3 := Box.put rb623 p0 p1 p2 p3
          have rb524 : Row ((((g23.setCell ⟨b6, 0, none⟩ (.int .u64 p0)).setCell ⟨b6, 1, none⟩ (.int .u64 p1)).setCell ⟨b6, 2, none⟩ (.int .u64 p2)).setCell ⟨b6, 3, none⟩ (.int .u64 p3)) b5 8 q := Row.set_others (c := b6) (by omega) [_, _, _, _] 0 rb523
          refine hK.out _ _ x24 (fun _ => ?_)
          clear hK K c0 c1 c2 c3 f0 f1 f2 f3 x23 rb623 rb523
          generalize ((((g23.setCell ⟨b6, 0, none⟩ (.int .u64 p0)).setCell ⟨b6, 1, none⟩ (.int .u64 p1)).setCell ⟨b6, 2, none⟩ (.int .u64 p2)).setCell ⟨b6, 3, none⟩ (.int .u64 p3)) = g24 at x24 rb624 rb524 ⊢
          (try simp only [Act.put])
          refine wpAnyH_done (by kernel_rfl) ?_ _
          go_wp2
          go_meet
          case rel => exact ⟨_, q, rfl, rb524, hq, x24⟩
        · rw [if_pos (by rfl)]
          go_simp
          have x25 : D3 w a0 a1 a2 a3 b0 b1 b2 b3 (g20.alloc (.cells #[.int .u64 0, .int .u64 0, .int .u64 0, .int .u64 0, .int .u64 0, .int .u64 0, .int .u64 0, .int .u64 0] 69)) := x20.past ((Below.refl _ _).alloc (Nat.le_refl _) _)
          have lb5 : w.heap.size + 1 + 1 < g20.heap.size := Box.lt x20.br
          have rb625 : Box (g20.alloc (.cells #[.int .u64 0, .int .u64 0, .int .u64 0, .int .u64 0, .int .u64 0, .int .u64 0, .int .u64 0, .int .u64 0] 69)) b6 0 0 0 0 := Box.below rb620 ((Below.refl _ _).alloc (Nat.le_refl _) _) (Box.lt rb620)
          have mb6b5 : b6 < g20.heap.size := Box.lt rb620
          have rb525 : Row (g20.alloc (.cells #[.int .u64 0, .int .u64 0, .int .u64 0, .int .u64 0, .int .u64 0, .int .u64 0, .int .u64 0, .int .u64 0] 69)) g20.heap.size 8 (fun _ => 0) := by rw [zero8]; exact Row.new g20 69 8 _
          refine hK.out _ _ x25 (fun _ => ?_)
          clear hK K x20 rb620
          generalize g20.alloc (.cells #[.int .u64 0, .int .u64 0, .int .u64 0, .int .u64 0, .int .u64 0, .int .u64 0, .int .u64 0, .int .u64 0] 69) = g25 at x25 rb625 rb525 ⊢
          generalize g20.heap.size = b5 at lb5 mb6b5 rb525 ⊢
          refine wpAnyH_ready (rs := [3]) (by kernel_rfl) (by simp) ?_
          refine AllReadyH.cons op3 (fun K hK => ?_) AllReadyH.nil
          rw [if_pos (by rfl)]
          go_simp
          refine (DV.out _).mono ?_
          rintro e g26 ⟨⟨q, rfl, hq⟩, hB⟩
          have x26 : D3 w a0 a1 a2 a3 b0 b1 b2 b3 g26 := x25.past hB
          have rb626 : Box g26 b6 0 0 0 0 := Box.below rb625 hB (Box.lt rb625)
          have rb526 : Row g26 b5 8 (fun _ => 0) := Row.below rb525 hB (Row.lt rb525 (by omega))
          clear hB x25 rb625 rb525
          (try go_wp2_with fail)
          refine hK.out _ _ x26 (fun _ => ?_)
          clear hK K
          refine wpAnyH_take (i := 4) (v := .tuple #[.agg (rowL 8 q).toArray, .agg #[.int .u64 p0, .int .u64 p1, .int .u64 p2, .int .u64 p3]]) op4 (by kernel_rfl) (by kernel_rfl) (by kernel_rfl) (fun _ _ _ h => h) (Or.inl ⟨by rfl, fun W hS => ?_⟩) x26 ?_
          · go_simp
          simp only [Act.put, List.setIfInBounds_toArray, List.set_cons_zero, List.set_cons_succ]
          refine wpAnyH_take (i := 5) (v := .agg (rowL 8 q).toArray) op5 (by kernel_rfl) (by kernel_rfl) (by kernel_rfl) (fun _ _ _ h => h) (Or.inl ⟨by rfl, fun W hS => ?_⟩) x26 ?_
          · go_simp
          simp only [Act.put, List.setIfInBounds_toArray, List.set_cons_zero, List.set_cons_succ]
          refine wpAnyH_take (i := 6) (v := .agg #[.int .u64 p0, .int .u64 p1, .int .u64 p2, .int .u64 p3]) op6 (by kernel_rfl) (by kernel_rfl) (by kernel_rfl) (fun _ _ _ h => h) (Or.inl ⟨by rfl, fun W hS => ?_⟩) x26 ?_
          · go_simp
          simp only [Act.put, List.setIfInBounds_toArray, List.set_cons_zero, List.set_cons_succ]
          refine wpAnyH_ready (rs := [9]) (by kernel_rfl) (by simp) ?_
          refine AllReadyH.cons op9 (fun K hK => ?_) AllReadyH.nil
          rw [if_pos (by rfl)]
          refine wp_store_mid 69 _ _ rfl b5 0 (rowL 8 q).toArray rfl rfl (there_row rb526) (by rw [List.size_toArray, rowL_len]; kernel_rfl) (rowL_one 8 q) ?_
          show K _ (g26.setCells b5 0 (rowL 8 q))
          have x27 : D3 w a0 a1 a2 a3 b0 b1 b2 b3 (g26.setCells b5 0 (rowL 8 q)) := x26.cells _ _ _ lb5
          have rb627 : Box (g26.setCells b5 0 (rowL 8 q)) b6 0 0 0 0 := Box.cells rb626 _ _ _ (by omega)
          have rb527 : Row (g26.setCells b5 0 (rowL 8 q)) b5 8 q := Row.of_range rb526
          refine hK.out _ _ x27 (fun _ => ?_)
          clear hK K x26 rb626 rb526
          generalize g26.setCells b5 0 (rowL 8 q) = g27 at x27 rb627 rb527 ⊢
          simp only [Act.put]
          refine wpAnyH_ready (rs := [10]) (by kernel_rfl) (by simp) ?_
          refine AllReadyH.cons op10 (fun K hK => ?_) AllReadyH.nil
          rw [if_pos (by rfl)]
          obtain ⟨c0, c1, c2, c3, f0, f1, f2, f3⟩ := Box.facts rb627
          go_simp
          have x28 : D3 w a0 a1 a2 a3 b0 b1 b2 b3 ((((g27.setCell ⟨b6, 0, none⟩ (.int .u64 p0)).setCell ⟨b6, 1, none⟩ (.int .u64 p1)).setCell ⟨b6, 2, none⟩ (.int .u64 p2)).setCell ⟨b6, 3, none⟩ (.int .u64 p3)) := x27.cells b6 0 [_, _, _, _] lb6
          have rb628 : Box ((((g27.setCell ⟨b6, 0, none⟩ (.int .u64 p0)).setCell ⟨b6, 1, none⟩ (.int .u64 p1)).setCell ⟨b6, 2, none⟩ (.int .u64 p2)).setCell ⟨b6, 3, none⟩ (.int .u64 p3)) b6 p0 p1 p2 p3 := Box.put rb627 p0 p1 p2 p3
          have rb528 : Row ((((g27.setCell ⟨b6, 0, none⟩ (.int .u64 p0)).setCell ⟨b6, 1, none⟩ (.int .u64 p1)).setCell ⟨b6, 2, none⟩ (.int .u64 p2)).setCell ⟨b6, 3, none⟩ (.int .u64 p3)) b5 8 q := Row.set_others (c := b6) (by omega) [_, _, _, _] 0 rb527
          refine hK.out _ _ x28 (fun _ => ?_)
          clear hK K c0 c1 c2 c3 f0 f1 f2 f3 x27 rb627 rb527
          generalize ((((g27.setCell ⟨b6, 0, none⟩ (.int .u64 p0)).setCell ⟨b6, 1, none⟩ (.int .u64 p1)).setCell ⟨b6, 2, none⟩ (.int .u64 p2)).setCell ⟨b6, 3, none⟩ (.int .u64 p3)) = g28 at x28 rb628 rb528 ⊢
          (try simp only [Act.put])
          refine wpAnyH_done (by kernel_rfl) ?_ _
          go_wp2
          go_meet
          case rel => exact ⟨_, q, rfl, rb528, hq, x28⟩
    · rw [if_pos (by rfl)]
      go_simp
      have x29 : D3 w a0 a1 a2 a3 b0 b1 b2 b3 (g0.alloc (.cells #[.int .u64 0, .int .u64 0, .int .u64 0, .int .u64 0, .int .u64 0, .int .u64 0, .int .u64 0, .int .u64 0] 69)) := hHeld.past ((Below.refl _ _).alloc (Nat.le_refl _) _)
      have lb5 : w.heap.size + 1 + 1 < g0.heap.size := Box.lt hHeld.br
      have rb529 : Row (g0.alloc (.cells #[.int .u64 0, .int .u64 0, .int .u64 0, .int .u64 0, .int .u64 0, .int .u64 0, .int .u64 0, .int .u64 0] 69)) g0.heap.size 8 (fun _ => 0) := by rw [zero8]; exact Row.new g0 69 8 _
      refine hK.out _ _ x29 (fun _ => ?_)
      clear hK K hHeld 
      generalize g0.alloc (.cells #[.int .u64 0, .int .u64 0, .int .u64 0, .int .u64 0, .int .u64 0, .int .u64 0, .int .u64 0, .int .u64 0] 69) = g29 at x29 rb529 ⊢
      generalize g0.heap.size = b5 at lb5  rb529 ⊢
      refine wpAnyH_ready (rs := [1, 8]) (by kernel_rfl) (by simp) ?_
      refine AllReadyH.cons op1 (fun K hK => ?_) (AllReadyH.cons op8 (fun K hK => ?_) AllReadyH.nil)
      · rw [if_pos (by rfl)]
        go_simp
        refine (widen_is a0 a1 a2 a3 _).mono ?_
        rintro e g30 ⟨rfl, hB⟩
        have x30 : D3 w a0 a1 a2 a3 b0 b1 b2 b3 g30 := x29.past hB
        have rb530 : Row g30 b5 8 (fun _ => 0) := Row.below rb529 hB (Row.lt rb529 (by omega))
        clear hB x29 rb529
        (try go_wp2_with fail)
        refine hK.out _ _ x30 (fun _ => ?_)
        clear hK K
        refine wpAnyH_ready (rs := [3, 8]) (by kernel_rfl) (by simp) ?_
        refine AllReadyH.cons op3 (fun K hK => ?_) (AllReadyH.cons op8 (fun K hK => ?_) AllReadyH.nil)
        · rw [if_pos (by rfl)]
          go_simp
          refine (DV.out _).mono ?_
          rintro e g31 ⟨⟨q, rfl, hq⟩, hB⟩
          have x31 : D3 w a0 a1 a2 a3 b0 b1 b2 b3 g31 := x30.past hB
          have rb531 : Row g31 b5 8 (fun _ => 0) := Row.below rb530 hB (Row.lt rb530 (by omega))
          clear hB x30 rb530
          (try go_wp2_with fail)
          refine hK.out _ _ x31 (fun _ => ?_)
          clear hK K
          refine wpAnyH_take (i := 4) (v := .tuple #[.agg (rowL 8 q).toArray, .agg #[.int .u64 p0, .int .u64 p1, .int .u64 p2, .int .u64 p3]]) op4 (by kernel_rfl) (by kernel_rfl) (by kernel_rfl) (fun _ _ _ h => h) (Or.inl ⟨by rfl, fun W hS => ?_⟩) x31 ?_
          · go_simp
          simp only [Act.put, List.setIfInBounds_toArray, List.set_cons_zero, List.set_cons_succ]
          refine wpAnyH_take (i := 5) (v := .agg (rowL 8 q).toArray) op5 (by kernel_rfl) (by kernel_rfl) (by kernel_rfl) (fun _ _ _ h => h) (Or.inl ⟨by rfl, fun W hS => ?_⟩) x31 ?_
          · go_simp
          simp only [Act.put, List.setIfInBounds_toArray, List.set_cons_zero, List.set_cons_succ]
          refine wpAnyH_take (i := 6) (v := .agg #[.int .u64 p0, .int .u64 p1, .int .u64 p2, .int .u64 p3]) op6 (by kernel_rfl) (by kernel_rfl) (by kernel_rfl) (fun _ _ _ h => h) (Or.inl ⟨by rfl, fun W hS => ?_⟩) x31 ?_
          · go_simp
          simp only [Act.put, List.setIfInBounds_toArray, List.set_cons_zero, List.set_cons_succ]
          refine wpAnyH_ready (rs := [8]) (by kernel_rfl) (by simp) ?_
          refine AllReadyH.cons op8 (fun K hK => ?_) AllReadyH.nil
          rw [if_pos (by rfl)]
          go_simp
          have x32 : D3 w a0 a1 a2 a3 b0 b1 b2 b3 (g31.alloc (.cells #[.int .u64 0, .int .u64 0, .int .u64 0, .int .u64 0] 24)) := x31.past ((Below.refl _ _).alloc (Nat.le_refl _) _)
          have lb6 : w.heap.size + 1 + 1 < g31.heap.size := Box.lt x31.br
          have rb532 : Row (g31.alloc (.cells #[.int .u64 0, .int .u64 0, .int .u64 0, .int .u64 0] 24)) b5 8 (fun _ => 0) := Row.below rb531 ((Below.refl _ _).alloc (Nat.le_refl _) _) (Row.lt rb531 (by omega))
          have mb5b6 : b5 < g31.heap.size := Row.lt rb531 (by omega)
          have rb632 : Box (g31.alloc (.cells #[.int .u64 0, .int .u64 0, .int .u64 0, .int .u64 0] 24)) g31.heap.size 0 0 0 0 := Box.new g31 24 0 0 0 0
          refine hK.out _ _ x32 (fun _ => ?_)
          clear hK K x31 rb531
          generalize g31.alloc (.cells #[.int .u64 0, .int .u64 0, .int .u64 0, .int .u64 0] 24) = g32 at x32 rb532 rb632 ⊢
          generalize g31.heap.size = b6 at lb6 mb5b6 rb632 ⊢
          refine wpAnyH_ready (rs := [9]) (by kernel_rfl) (by simp) ?_
          refine AllReadyH.cons op9 (fun K hK => ?_) AllReadyH.nil
          rw [if_pos (by rfl)]
          refine wp_store_mid 69 _ _ rfl b5 0 (rowL 8 q).toArray rfl rfl (there_row rb532) (by rw [List.size_toArray, rowL_len]; kernel_rfl) (rowL_one 8 q) ?_
          show K _ (g32.setCells b5 0 (rowL 8 q))
          have x33 : D3 w a0 a1 a2 a3 b0 b1 b2 b3 (g32.setCells b5 0 (rowL 8 q)) := x32.cells _ _ _ lb5
          have rb533 : Row (g32.setCells b5 0 (rowL 8 q)) b5 8 q := Row.of_range rb532
          have rb633 : Box (g32.setCells b5 0 (rowL 8 q)) b6 0 0 0 0 := Box.cells rb632 _ _ _ (by omega)
          refine hK.out _ _ x33 (fun _ => ?_)
          clear hK K x32 rb532 rb632
          generalize g32.setCells b5 0 (rowL 8 q) = g33 at x33 rb533 rb633 ⊢
          simp only [Act.put]
          refine wpAnyH_ready (rs := [10]) (by kernel_rfl) (by simp) ?_
          refine AllReadyH.cons op10 (fun K hK => ?_) AllReadyH.nil
          rw [if_pos (by rfl)]
          obtain ⟨c0, c1, c2, c3, f0, f1, f2, f3⟩ := Box.facts rb633
          go_simp
          have x34 : D3 w a0 a1 a2 a3 b0 b1 b2 b3 ((((g33.setCell ⟨b6, 0, none⟩ (.int .u64 p0)).setCell ⟨b6, 1, none⟩ (.int .u64 p1)).setCell ⟨b6, 2, none⟩ (.int .u64 p2)).setCell ⟨b6, 3, none⟩ (.int .u64 p3)) := x33.cells b6 0 [_, _, _, _] lb6
          have rb534 : Row ((((g33.setCell ⟨b6, 0, none⟩ (.int .u64 p0)).setCell ⟨b6, 1, none⟩ (.int .u64 p1)).setCell ⟨b6, 2, none⟩ (.int .u64 p2)).setCell ⟨b6, 3, none⟩ (.int .u64 p3)) b5 8 q := Row.set_others (c := b6) (by omega) [_, _, _, _] 0 rb533
          have rb634 : Box ((((g33.setCell ⟨b6, 0, none⟩ (.int .u64 p0)).setCell ⟨b6, 1, none⟩ (.int .u64 p1)).setCell ⟨b6, 2, none⟩ (.int .u64 p2)).setCell ⟨b6, 3, none⟩ (.int .u64 p3)) b6 p0 p1 p2 p3 := Box.put rb633 p0 p1 p2 p3
          refine hK.out _ _ x34 (fun _ => ?_)
          clear hK K c0 c1 c2 c3 f0 f1 f2 f3 x33 rb533 rb633
          generalize ((((g33.setCell ⟨b6, 0, none⟩ (.int .u64 p0)).setCell ⟨b6, 1, none⟩ (.int .u64 p1)).setCell ⟨b6, 2, none⟩ (.int .u64 p2)).setCell ⟨b6, 3, none⟩ (.int .u64 p3)) = g34 at x34 rb534 rb634 ⊢
          (try simp only [Act.put])
          refine wpAnyH_done (by kernel_rfl) ?_ _
          go_wp2
          go_meet
          case rel => exact ⟨_, q, rfl, rb534, hq, x34⟩
        · rw [if_pos (by rfl)]
          go_simp
          have x35 : D3 w a0 a1 a2 a3 b0 b1 b2 b3 (g30.alloc (.cells #[.int .u64 0, .int .u64 0, .int .u64 0, .int .u64 0] 24)) := x30.past ((Below.refl _ _).alloc (Nat.le_refl _) _)
          have lb6 : w.heap.size + 1 + 1 < g30.heap.size := Box.lt x30.br
          have rb535 : Row (g30.alloc (.cells #[.int .u64 0, .int .u64 0, .int .u64 0, .int .u64 0] 24)) b5 8 (fun _ => 0) := Row.below rb530 ((Below.refl _ _).alloc (Nat.le_refl _) _) (Row.lt rb530 (by omega))
          have mb5b6 : b5 < g30.heap.size := Row.lt rb530 (by omega)
          have rb635 : Box (g30.alloc (.cells #[.int .u64 0, .int .u64 0, .int .u64 0, .int .u64 0] 24)) g30.heap.size 0 0 0 0 := Box.new g30 24 0 0 0 0
          refine hK.out _ _ x35 (fun _ => ?_)
          clear hK K x30 rb530
          generalize g30.alloc (.cells #[.int .u64 0, .int .u64 0, .int .u64 0, .int .u64 0] 24) = g35 at x35 rb535 rb635 ⊢
          generalize g30.heap.size = b6 at lb6 mb5b6 rb635 ⊢
          refine wpAnyH_ready (rs := [3]) (by kernel_rfl) (by simp) ?_
          refine AllReadyH.cons op3 (fun K hK => ?_) AllReadyH.nil
          rw [if_pos (by rfl)]
          go_simp
          refine (DV.out _).mono ?_
          rintro e g36 ⟨⟨q, rfl, hq⟩, hB⟩
          have x36 : D3 w a0 a1 a2 a3 b0 b1 b2 b3 g36 := x35.past hB
          have rb536 : Row g36 b5 8 (fun _ => 0) := Row.below rb535 hB (Row.lt rb535 (by omega))
          have rb636 : Box g36 b6 0 0 0 0 := Box.below rb635 hB (Box.lt rb635)
          clear hB x35 rb535 rb635
          (try go_wp2_with fail)
          refine hK.out _ _ x36 (fun _ => ?_)
          clear hK K
          refine wpAnyH_take (i := 4) (v := .tuple #[.agg (rowL 8 q).toArray, .agg #[.int .u64 p0, .int .u64 p1, .int .u64 p2, .int .u64 p3]]) op4 (by kernel_rfl) (by kernel_rfl) (by kernel_rfl) (fun _ _ _ h => h) (Or.inl ⟨by rfl, fun W hS => ?_⟩) x36 ?_
          · go_simp
          simp only [Act.put, List.setIfInBounds_toArray, List.set_cons_zero, List.set_cons_succ]
          refine wpAnyH_take (i := 5) (v := .agg (rowL 8 q).toArray) op5 (by kernel_rfl) (by kernel_rfl) (by kernel_rfl) (fun _ _ _ h => h) (Or.inl ⟨by rfl, fun W hS => ?_⟩) x36 ?_
          · go_simp
          simp only [Act.put, List.setIfInBounds_toArray, List.set_cons_zero, List.set_cons_succ]
          refine wpAnyH_take (i := 6) (v := .agg #[.int .u64 p0, .int .u64 p1, .int .u64 p2, .int .u64 p3]) op6 (by kernel_rfl) (by kernel_rfl) (by kernel_rfl) (fun _ _ _ h => h) (Or.inl ⟨by rfl, fun W hS => ?_⟩) x36 ?_
          · go_simp
          simp only [Act.put, List.setIfInBounds_toArray, List.set_cons_zero, List.set_cons_succ]
          refine wpAnyH_ready (rs := [9]) (by kernel_rfl) (by simp) ?_
          refine AllReadyH.cons op9 (fun K hK => ?_) AllReadyH.nil
          rw [if_pos (by rfl)]
          refine wp_store_mid 69 _ _ rfl b5 0 (rowL 8 q).toArray rfl rfl (there_row rb536) (by rw [List.size_toArray, rowL_len]; kernel_rfl) (rowL_one 8 q) ?_
          show K _ (g36.setCells b5 0 (rowL 8 q))
          have x37 : D3 w a0 a1 a2 a3 b0 b1 b2 b3 (g36.setCells b5 0 (rowL 8 q)) := x36.cells _ _ _ lb5
          have rb537 : Row (g36.setCells b5 0 (rowL 8 q)) b5 8 q := Row.of_range rb536
          have rb637 : Box (g36.setCells b5 0 (rowL 8 q)) b6 0 0 0 0 := Box.cells rb636 _ _ _ (by omega)
          refine hK.out _ _ x37 (fun _ => ?_)
          clear hK K x36 rb536 rb636
          generalize g36.setCells b5 0 (rowL 8 q) = g37 at x37 rb537 rb637 ⊢
          simp only [Act.put]
          refine wpAnyH_ready (rs := [10]) (by kernel_rfl) (by simp) ?_
          refine AllReadyH.cons op10 (fun K hK => ?_) AllReadyH.nil
          rw [if_pos (by rfl)]
          obtain ⟨c0, c1, c2, c3, f0, f1, f2, f3⟩ := Box.facts rb637
          go_simp
          have x38 : D3 w a0 a1 a2 a3 b0 b1 b2 b3 ((((g37.setCell ⟨b6, 0, none⟩ (.int .u64 p0)).setCell ⟨b6, 1, none⟩ (.int .u64 p1)).setCell ⟨b6, 2, none⟩ (.int .u64 p2)).setCell ⟨b6, 3, none⟩ (.int .u64 p3)) := x37.cells b6 0 [_, _, _, _] lb6
          have rb538 : Row ((((g37.setCell ⟨b6, 0, none⟩ (.int .u64 p0)).setCell ⟨b6, 1, none⟩ (.int .u64 p1)).setCell ⟨b6, 2, none⟩ (.int .u64 p2)).setCell ⟨b6, 3, none⟩ (.int .u64 p3)) b5 8 q := Row.set_others (c := b6) (by omega) [_, _, _, _] 0 rb537
          have rb638 : Box ((((g37.setCell ⟨b6, 0, none⟩ (.int .u64 p0)).setCell ⟨b6, 1, none⟩ (.int .u64 p1)).setCell ⟨b6, 2, none⟩ (.int .u64 p2)).setCell ⟨b6, 3, none⟩ (.int .u64 p3)) b6 p0 p1 p2 p3 := Box.put rb637 p0 p1 p2 p3
          refine hK.out _ _ x38 (fun _ => ?_)
          clear hK K c0 c1 c2 c3 f0 f1 f2 f3 x37 rb537 rb637
          generalize ((((g37.setCell ⟨b6, 0, none⟩ (.int .u64 p0)).setCell ⟨b6, 1, none⟩ (.int .u64 p1)).setCell ⟨b6, 2, none⟩ (.int .u64 p2)).setCell ⟨b6, 3, none⟩ (.int .u64 p3)) = g38 at x38 rb538 rb638 ⊢
          (try simp only [Act.put])
          refine wpAnyH_done (by kernel_rfl) ?_ _
          go_wp2
          go_meet
          case rel => exact ⟨_, q, rfl, rb538, hq, x38⟩
      · rw [if_pos (by rfl)]
        go_simp
        have x39 : D3 w a0 a1 a2 a3 b0 b1 b2 b3 (g29.alloc (.cells #[.int .u64 0, .int .u64 0, .int .u64 0, .int .u64 0] 24)) := x29.past ((Below.refl _ _).alloc (Nat.le_refl _) _)
        have lb6 : w.heap.size + 1 + 1 < g29.heap.size := Box.lt x29.br
        have rb539 : Row (g29.alloc (.cells #[.int .u64 0, .int .u64 0, .int .u64 0, .int .u64 0] 24)) b5 8 (fun _ => 0) := Row.below rb529 ((Below.refl _ _).alloc (Nat.le_refl _) _) (Row.lt rb529 (by omega))
        have mb5b6 : b5 < g29.heap.size := Row.lt rb529 (by omega)
        have rb639 : Box (g29.alloc (.cells #[.int .u64 0, .int .u64 0, .int .u64 0, .int .u64 0] 24)) g29.heap.size 0 0 0 0 := Box.new g29 24 0 0 0 0
        refine hK.out _ _ x39 (fun _ => ?_)
        clear hK K x29 rb529
        generalize g29.alloc (.cells #[.int .u64 0, .int .u64 0, .int .u64 0, .int .u64 0] 24) = g39 at x39 rb539 rb639 ⊢
        generalize g29.heap.size = b6 at lb6 mb5b6 rb639 ⊢
        refine wpAnyH_ready (rs := [1]) (by kernel_rfl) (by simp) ?_
        refine AllReadyH.cons op1 (fun K hK => ?_) AllReadyH.nil
        rw [if_pos (by rfl)]
        go_simp
        refine (widen_is a0 a1 a2 a3 _).mono ?_
        rintro e g40 ⟨rfl, hB⟩
        have x40 : D3 w a0 a1 a2 a3 b0 b1 b2 b3 g40 := x39.past hB
        have rb540 : Row g40 b5 8 (fun _ => 0) := Row.below rb539 hB (Row.lt rb539 (by omega))
        have rb640 : Box g40 b6 0 0 0 0 := Box.below rb639 hB (Box.lt rb639)
        clear hB x39 rb539 rb639
        (try go_wp2_with fail)
        refine hK.out _ _ x40 (fun _ => ?_)
        clear hK K
        refine wpAnyH_ready (rs := [3]) (by kernel_rfl) (by simp) ?_
        refine AllReadyH.cons op3 (fun K hK => ?_) AllReadyH.nil
        rw [if_pos (by rfl)]
        go_simp
        refine (DV.out _).mono ?_
        rintro e g41 ⟨⟨q, rfl, hq⟩, hB⟩
        have x41 : D3 w a0 a1 a2 a3 b0 b1 b2 b3 g41 := x40.past hB
        have rb541 : Row g41 b5 8 (fun _ => 0) := Row.below rb540 hB (Row.lt rb540 (by omega))
        have rb641 : Box g41 b6 0 0 0 0 := Box.below rb640 hB (Box.lt rb640)
        clear hB x40 rb540 rb640
        (try go_wp2_with fail)
        refine hK.out _ _ x41 (fun _ => ?_)
        clear hK K
        refine wpAnyH_take (i := 4) (v := .tuple #[.agg (rowL 8 q).toArray, .agg #[.int .u64 p0, .int .u64 p1, .int .u64 p2, .int .u64 p3]]) op4 (by kernel_rfl) (by kernel_rfl) (by kernel_rfl) (fun _ _ _ h => h) (Or.inl ⟨by rfl, fun W hS => ?_⟩) x41 ?_
        · go_simp
        simp only [Act.put, List.setIfInBounds_toArray, List.set_cons_zero, List.set_cons_succ]
        refine wpAnyH_take (i := 5) (v := .agg (rowL 8 q).toArray) op5 (by kernel_rfl) (by kernel_rfl) (by kernel_rfl) (fun _ _ _ h => h) (Or.inl ⟨by rfl, fun W hS => ?_⟩) x41 ?_
        · go_simp
        simp only [Act.put, List.setIfInBounds_toArray, List.set_cons_zero, List.set_cons_succ]
        refine wpAnyH_take (i := 6) (v := .agg #[.int .u64 p0, .int .u64 p1, .int .u64 p2, .int .u64 p3]) op6 (by kernel_rfl) (by kernel_rfl) (by kernel_rfl) (fun _ _ _ h => h) (Or.inl ⟨by rfl, fun W hS => ?_⟩) x41 ?_
        · go_simp
        simp only [Act.put, List.setIfInBounds_toArray, List.set_cons_zero, List.set_cons_succ]
        refine wpAnyH_ready (rs := [9]) (by kernel_rfl) (by simp) ?_
        refine AllReadyH.cons op9 (fun K hK => ?_) AllReadyH.nil
        rw [if_pos (by rfl)]
        refine wp_store_mid 69 _ _ rfl b5 0 (rowL 8 q).toArray rfl rfl (there_row rb541) (by rw [List.size_toArray, rowL_len]; kernel_rfl) (rowL_one 8 q) ?_
        show K _ (g41.setCells b5 0 (rowL 8 q))
        have x42 : D3 w a0 a1 a2 a3 b0 b1 b2 b3 (g41.setCells b5 0 (rowL 8 q)) := x41.cells _ _ _ lb5
        have rb542 : Row (g41.setCells b5 0 (rowL 8 q)) b5 8 q := Row.of_range rb541
        have rb642 : Box (g41.setCells b5 0 (rowL 8 q)) b6 0 0 0 0 := Box.cells rb641 _ _ _ (by omega)
        refine hK.out _ _ x42 (fun _ => ?_)
        clear hK K x41 rb541 rb641
        generalize g41.setCells b5 0 (rowL 8 q) = g42 at x42 rb542 rb642 ⊢
        simp only [Act.put]
        refine wpAnyH_ready (rs := [10]) (by kernel_rfl) (by simp) ?_
        refine AllReadyH.cons op10 (fun K hK => ?_) AllReadyH.nil
        rw [if_pos (by rfl)]
        obtain ⟨c0, c1, c2, c3, f0, f1, f2, f3⟩ := Box.facts rb642
        go_simp
        have x43 : D3 w a0 a1 a2 a3 b0 b1 b2 b3 ((((g42.setCell ⟨b6, 0, none⟩ (.int .u64 p0)).setCell ⟨b6, 1, none⟩ (.int .u64 p1)).setCell ⟨b6, 2, none⟩ (.int .u64 p2)).setCell ⟨b6, 3, none⟩ (.int .u64 p3)) := x42.cells b6 0 [_, _, _, _] lb6
        have rb543 : Row ((((g42.setCell ⟨b6, 0, none⟩ (.int .u64 p0)).setCell ⟨b6, 1, none⟩ (.int .u64 p1)).setCell ⟨b6, 2, none⟩ (.int .u64 p2)).setCell ⟨b6, 3, none⟩ (.int .u64 p3)) b5 8 q := Row.set_others (c := b6) (by omega) [_, _, _, _] 0 rb542
        have rb643 : Box ((((g42.setCell ⟨b6, 0, none⟩ (.int .u64 p0)).setCell ⟨b6, 1, none⟩ (.int .u64 p1)).setCell ⟨b6, 2, none⟩ (.int .u64 p2)).setCell ⟨b6, 3, none⟩ (.int .u64 p3)) b6 p0 p1 p2 p3 := Box.put rb642 p0 p1 p2 p3
        refine hK.out _ _ x43 (fun _ => ?_)
        clear hK K c0 c1 c2 c3 f0 f1 f2 f3 x42 rb542 rb642
        generalize ((((g42.setCell ⟨b6, 0, none⟩ (.int .u64 p0)).setCell ⟨b6, 1, none⟩ (.int .u64 p1)).setCell ⟨b6, 2, none⟩ (.int .u64 p2)).setCell ⟨b6, 3, none⟩ (.int .u64 p3)) = g43 at x43 rb543 rb643 ⊢
        (try simp only [Act.put])
        refine wpAnyH_done (by kernel_rfl) ?_ _
        go_wp2
        go_meet
        case rel => exact ⟨_, q, rfl, rb543, hq, x43⟩
    · rw [if_pos (by rfl)]
      go_simp
      have x44 : D3 w a0 a1 a2 a3 b0 b1 b2 b3 (g0.alloc (.cells #[.int .u64 0, .int .u64 0, .int .u64 0, .int .u64 0] 24)) := hHeld.past ((Below.refl _ _).alloc (Nat.le_refl _) _)
      have lb6 : w.heap.size + 1 + 1 < g0.heap.size := Box.lt hHeld.br
      have rb644 : Box (g0.alloc (.cells #[.int .u64 0, .int .u64 0, .int .u64 0, .int .u64 0] 24)) g0.heap.size 0 0 0 0 := Box.new g0 24 0 0 0 0
      refine hK.out _ _ x44 (fun _ => ?_)
      clear hK K hHeld 
      generalize g0.alloc (.cells #[.int .u64 0, .int .u64 0, .int .u64 0, .int .u64 0] 24) = g44 at x44 rb644 ⊢
      generalize g0.heap.size = b6 at lb6  rb644 ⊢
      refine wpAnyH_ready (rs := [1, 7]) (by kernel_rfl) (by simp) ?_
      refine AllReadyH.cons op1 (fun K hK => ?_) (AllReadyH.cons op7 (fun K hK => ?_) AllReadyH.nil)
      · rw [if_pos (by rfl)]
        go_simp
        refine (widen_is a0 a1 a2 a3 _).mono ?_
        rintro e g45 ⟨rfl, hB⟩
        have x45 : D3 w a0 a1 a2 a3 b0 b1 b2 b3 g45 := x44.past hB
        have rb645 : Box g45 b6 0 0 0 0 := Box.below rb644 hB (Box.lt rb644)
        clear hB x44 rb644
        (try go_wp2_with fail)
        refine hK.out _ _ x45 (fun _ => ?_)
        clear hK K
        refine wpAnyH_ready (rs := [3, 7]) (by kernel_rfl) (by simp) ?_
        refine AllReadyH.cons op3 (fun K hK => ?_) (AllReadyH.cons op7 (fun K hK => ?_) AllReadyH.nil)
        · rw [if_pos (by rfl)]
          go_simp
          refine (DV.out _).mono ?_
          rintro e g46 ⟨⟨q, rfl, hq⟩, hB⟩
          have x46 : D3 w a0 a1 a2 a3 b0 b1 b2 b3 g46 := x45.past hB
          have rb646 : Box g46 b6 0 0 0 0 := Box.below rb645 hB (Box.lt rb645)
          clear hB x45 rb645
          (try go_wp2_with fail)
          refine hK.out _ _ x46 (fun _ => ?_)
          clear hK K
          refine wpAnyH_take (i := 4) (v := .tuple #[.agg (rowL 8 q).toArray, .agg #[.int .u64 p0, .int .u64 p1, .int .u64 p2, .int .u64 p3]]) op4 (by kernel_rfl) (by kernel_rfl) (by kernel_rfl) (fun _ _ _ h => h) (Or.inl ⟨by rfl, fun W hS => ?_⟩) x46 ?_
          · go_simp
          simp only [Act.put, List.setIfInBounds_toArray, List.set_cons_zero, List.set_cons_succ]
          refine wpAnyH_take (i := 5) (v := .agg (rowL 8 q).toArray) op5 (by kernel_rfl) (by kernel_rfl) (by kernel_rfl) (fun _ _ _ h => h) (Or.inl ⟨by rfl, fun W hS => ?_⟩) x46 ?_
          · go_simp
          simp only [Act.put, List.setIfInBounds_toArray, List.set_cons_zero, List.set_cons_succ]
          refine wpAnyH_take (i := 6) (v := .agg #[.int .u64 p0, .int .u64 p1, .int .u64 p2, .int .u64 p3]) op6 (by kernel_rfl) (by kernel_rfl) (by kernel_rfl) (fun _ _ _ h => h) (Or.inl ⟨by rfl, fun W hS => ?_⟩) x46 ?_
          · go_simp
          simp only [Act.put, List.setIfInBounds_toArray, List.set_cons_zero, List.set_cons_succ]
          refine wpAnyH_ready (rs := [7]) (by kernel_rfl) (by simp) ?_
          refine AllReadyH.cons op7 (fun K hK => ?_) AllReadyH.nil
          rw [if_pos (by rfl)]
          go_simp
          have x47 : D3 w a0 a1 a2 a3 b0 b1 b2 b3 (g46.alloc (.cells #[.int .u64 0, .int .u64 0, .int .u64 0, .int .u64 0, .int .u64 0, .int .u64 0, .int .u64 0, .int .u64 0] 69)) := x46.past ((Below.refl _ _).alloc (Nat.le_refl _) _)
          have lb5 : w.heap.size + 1 + 1 < g46.heap.size := Box.lt x46.br
          have rb647 : Box (g46.alloc (.cells #[.int .u64 0, .int .u64 0, .int .u64 0, .int .u64 0, .int .u64 0, .int .u64 0, .int .u64 0, .int .u64 0] 69)) b6 0 0 0 0 := Box.below rb646 ((Below.refl _ _).alloc (Nat.le_refl _) _) (Box.lt rb646)
          have mb6b5 : b6 < g46.heap.size := Box.lt rb646
          have rb547 : Row (g46.alloc (.cells #[.int .u64 0, .int .u64 0, .int .u64 0, .int .u64 0, .int .u64 0, .int .u64 0, .int .u64 0, .int .u64 0] 69)) g46.heap.size 8 (fun _ => 0) := by rw [zero8]; exact Row.new g46 69 8 _
          refine hK.out _ _ x47 (fun _ => ?_)
          clear hK K x46 rb646
          generalize g46.alloc (.cells #[.int .u64 0, .int .u64 0, .int .u64 0, .int .u64 0, .int .u64 0, .int .u64 0, .int .u64 0, .int .u64 0] 69) = g47 at x47 rb647 rb547 ⊢
          generalize g46.heap.size = b5 at lb5 mb6b5 rb547 ⊢
          refine wpAnyH_ready (rs := [9]) (by kernel_rfl) (by simp) ?_
          refine AllReadyH.cons op9 (fun K hK => ?_) AllReadyH.nil
          rw [if_pos (by rfl)]
          refine wp_store_mid 69 _ _ rfl b5 0 (rowL 8 q).toArray rfl rfl (there_row rb547) (by rw [List.size_toArray, rowL_len]; kernel_rfl) (rowL_one 8 q) ?_
          show K _ (g47.setCells b5 0 (rowL 8 q))
          have x48 : D3 w a0 a1 a2 a3 b0 b1 b2 b3 (g47.setCells b5 0 (rowL 8 q)) := x47.cells _ _ _ lb5
          have rb648 : Box (g47.setCells b5 0 (rowL 8 q)) b6 0 0 0 0 := Box.cells rb647 _ _ _ (by omega)
          have rb548 : Row (g47.setCells b5 0 (rowL 8 q)) b5 8 q := Row.of_range rb547
          refine hK.out _ _ x48 (fun _ => ?_)
          clear hK K x47 rb647 rb547
          generalize g47.setCells b5 0 (rowL 8 q) = g48 at x48 rb648 rb548 ⊢
          simp only [Act.put]
          refine wpAnyH_ready (rs := [10]) (by kernel_rfl) (by simp) ?_
          refine AllReadyH.cons op10 (fun K hK => ?_) AllReadyH.nil
          rw [if_pos (by rfl)]
          obtain ⟨c0, c1, c2, c3, f0, f1, f2, f3⟩ := Box.facts rb648
          go_simp
          have x49 : D3 w a0 a1 a2 a3 b0 b1 b2 b3 ((((g48.setCell ⟨b6, 0, none⟩ (.int .u64 p0)).setCell ⟨b6, 1, none⟩ (.int .u64 p1)).setCell ⟨b6, 2, none⟩ (.int .u64 p2)).setCell ⟨b6, 3, none⟩ (.int .u64 p3)) := x48.cells b6 0 [_, _, _, _] lb6
          have rb649 : Box ((((g48.setCell ⟨b6, 0, none⟩ (.int .u64 p0)).setCell ⟨b6, 1, none⟩ (.int .u64 p1)).setCell ⟨b6, 2, none⟩ (.int .u64 p2)).setCell ⟨b6, 3, none⟩ (.int .u64 p3)) b6 p0 p1 p2 p3 := Box.put rb648 p0 p1 p2 p3
          have rb549 : Row ((((g48.setCell ⟨b6, 0, none⟩ (.int .u64 p0)).setCell ⟨b6, 1, none⟩ (.int .u64 p1)).setCell ⟨b6, 2, none⟩ (.int .u64 p2)).setCell ⟨b6, 3, none⟩ (.int .u64 p3)) b5 8 q := Row.set_others (c := b6) (by omega) [_, _, _, _] 0 rb548
          refine hK.out _ _ x49 (fun _ => ?_)
          clear hK K c0 c1 c2 c3 f0 f1 f2 f3 x48 rb648 rb548
          generalize ((((g48.setCell ⟨b6, 0, none⟩ (.int .u64 p0)).setCell ⟨b6, 1, none⟩ (.int .u64 p1)).setCell ⟨b6, 2, none⟩ (.int .u64 p2)).setCell ⟨b6, 3, none⟩ (.int .u64 p3)) = g49 at x49 rb649 rb549 ⊢
          (try simp only [Act.put])
          refine wpAnyH_done (by kernel_rfl) ?_ _
          go_wp2
          go_meet
          case rel => exact ⟨_, q, rfl, rb549, hq, x49⟩
        · rw [if_pos (by rfl)]
          go_simp
          have x50 : D3 w a0 a1 a2 a3 b0 b1 b2 b3 (g45.alloc (.cells #[.int .u64 0, .int .u64 0, .int .u64 0, .int .u64 0, .int .u64 0, .int .u64 0, .int .u64 0, .int .u64 0] 69)) := x45.past ((Below.refl _ _).alloc (Nat.le_refl _) _)
          have lb5 : w.heap.size + 1 + 1 < g45.heap.size := Box.lt x45.br
          have rb650 : Box (g45.alloc (.cells #[.int .u64 0, .int .u64 0, .int .u64 0, .int .u64 0, .int .u64 0, .int .u64 0, .int .u64 0, .int .u64 0] 69)) b6 0 0 0 0 := Box.below rb645 ((Below.refl _ _).alloc (Nat.le_refl _) _) (Box.lt rb645)
          have mb6b5 : b6 < g45.heap.size := Box.lt rb645
          have rb550 : Row (g45.alloc (.cells #[.int .u64 0, .int .u64 0, .int .u64 0, .int .u64 0, .int .u64 0, .int .u64 0, .int .u64 0, .int .u64 0] 69)) g45.heap.size 8 (fun _ => 0) := by rw [zero8]; exact Row.new g45 69 8 _
          refine hK.out _ _ x50 (fun _ => ?_)
          clear hK K x45 rb645
          generalize g45.alloc (.cells #[.int .u64 0, .int .u64 0, .int .u64 0, .int .u64 0, .int .u64 0, .int .u64 0, .int .u64 0, .int .u64 0] 69) = g50 at x50 rb650 rb550 ⊢
          generalize g45.heap.size = b5 at lb5 mb6b5 rb550 ⊢
          refine wpAnyH_ready (rs := [3]) (by kernel_rfl) (by simp) ?_
          refine AllReadyH.cons op3 (fun K hK => ?_) AllReadyH.nil
          rw [if_pos (by rfl)]
          go_simp
          refine (DV.out _).mono ?_
          rintro e g51 ⟨⟨q, rfl, hq⟩, hB⟩
          have x51 : D3 w a0 a1 a2 a3 b0 b1 b2 b3 g51 := x50.past hB
          have rb651 : Box g51 b6 0 0 0 0 := Box.below rb650 hB (Box.lt rb650)
          have rb551 : Row g51 b5 8 (fun _ => 0) := Row.below rb550 hB (Row.lt rb550 (by omega))
          clear hB x50 rb650 rb550
          (try go_wp2_with fail)
          refine hK.out _ _ x51 (fun _ => ?_)
          clear hK K
          refine wpAnyH_take (i := 4) (v := .tuple #[.agg (rowL 8 q).toArray, .agg #[.int .u64 p0, .int .u64 p1, .int .u64 p2, .int .u64 p3]]) op4 (by kernel_rfl) (by kernel_rfl) (by kernel_rfl) (fun _ _ _ h => h) (Or.inl ⟨by rfl, fun W hS => ?_⟩) x51 ?_
          · go_simp
          simp only [Act.put, List.setIfInBounds_toArray, List.set_cons_zero, List.set_cons_succ]
          refine wpAnyH_take (i := 5) (v := .agg (rowL 8 q).toArray) op5 (by kernel_rfl) (by kernel_rfl) (by kernel_rfl) (fun _ _ _ h => h) (Or.inl ⟨by rfl, fun W hS => ?_⟩) x51 ?_
          · go_simp
          simp only [Act.put, List.setIfInBounds_toArray, List.set_cons_zero, List.set_cons_succ]
          refine wpAnyH_take (i := 6) (v := .agg #[.int .u64 p0, .int .u64 p1, .int .u64 p2, .int .u64 p3]) op6 (by kernel_rfl) (by kernel_rfl) (by kernel_rfl) (fun _ _ _ h => h) (Or.inl ⟨by rfl, fun W hS => ?_⟩) x51 ?_
          · go_simp
          simp only [Act.put, List.setIfInBounds_toArray, List.set_cons_zero, List.set_cons_succ]
          refine wpAnyH_ready (rs := [9]) (by kernel_rfl) (by simp) ?_
          refine AllReadyH.cons op9 (fun K hK => ?_) AllReadyH.nil
          rw [if_pos (by rfl)]
          refine wp_store_mid 69 _ _ rfl b5 0 (rowL 8 q).toArray rfl rfl (there_row rb551) (by rw [List.size_toArray, rowL_len]; kernel_rfl) (rowL_one 8 q) ?_
          show K _ (g51.setCells b5 0 (rowL 8 q))
          have x52 : D3 w a0 a1 a2 a3 b0 b1 b2 b3 (g51.setCells b5 0 (rowL 8 q)) := x51.cells _ _ _ lb5
          have rb652 : Box (g51.setCells b5 0 (rowL 8 q)) b6 0 0 0 0 := Box.cells rb651 _ _ _ (by omega)
          have rb552 : Row (g51.setCells b5 0 (rowL 8 q)) b5 8 q := Row.of_range rb551
          refine hK.out _ _ x52 (fun _ => ?_)
          clear hK K x51 rb651 rb551
          generalize g51.setCells b5 0 (rowL 8 q) = g52 at x52 rb652 rb552 ⊢
          simp only [Act.put]
          refine wpAnyH_ready (rs := [10]) (by kernel_rfl) (by simp) ?_
          refine AllReadyH.cons op10 (fun K hK => ?_) AllReadyH.nil
          rw [if_pos (by rfl)]
          obtain ⟨c0, c1, c2, c3, f0, f1, f2, f3⟩ := Box.facts rb652
          go_simp
          have x53 : D3 w a0 a1 a2 a3 b0 b1 b2 b3 ((((g52.setCell ⟨b6, 0, none⟩ (.int .u64 p0)).setCell ⟨b6, 1, none⟩ (.int .u64 p1)).setCell ⟨b6, 2, none⟩ (.int .u64 p2)).setCell ⟨b6, 3, none⟩ (.int .u64 p3)) := x52.cells b6 0 [_, _, _, _] lb6
          have rb653 : Box ((((g52.setCell ⟨b6, 0, none⟩ (.int .u64 p0)).setCell ⟨b6, 1, none⟩ (.int .u64 p1)).setCell ⟨b6, 2, none⟩ (.int .u64 p2)).setCell ⟨b6, 3, none⟩ (.int .u64 p3)) b6 p0 p1 p2 p3 := Box.put rb652 p0 p1 p2 p3
          have rb553 : Row ((((g52.setCell ⟨b6, 0, none⟩ (.int .u64 p0)).setCell ⟨b6, 1, none⟩ (.int .u64 p1)).setCell ⟨b6, 2, none⟩ (.int .u64 p2)).setCell ⟨b6, 3, none⟩ (.int .u64 p3)) b5 8 q := Row.set_others (c := b6) (by omega) [_, _, _, _] 0 rb552
          refine hK.out _ _ x53 (fun _ => ?_)
          clear hK K c0 c1 c2 c3 f0 f1 f2 f3 x52 rb652 rb552
          generalize ((((g52.setCell ⟨b6, 0, none⟩ (.int .u64 p0)).setCell ⟨b6, 1, none⟩ (.int .u64 p1)).setCell ⟨b6, 2, none⟩ (.int .u64 p2)).setCell ⟨b6, 3, none⟩ (.int .u64 p3)) = g53 at x53 rb653 rb553 ⊢
          (try simp only [Act.put])
          refine wpAnyH_done (by kernel_rfl) ?_ _
          go_wp2
          go_meet
          case rel => exact ⟨_, q, rfl, rb553, hq, x53⟩
      · rw [if_pos (by rfl)]
        go_simp
        have x54 : D3 w a0 a1 a2 a3 b0 b1 b2 b3 (g44.alloc (.cells #[.int .u64 0, .int .u64 0, .int .u64 0, .int .u64 0, .int .u64 0, .int .u64 0, .int .u64 0, .int .u64 0] 69)) := x44.past ((Below.refl _ _).alloc (Nat.le_refl _) _)
        have lb5 : w.heap.size + 1 + 1 < g44.heap.size := Box.lt x44.br
        have rb654 : Box (g44.alloc (.cells #[.int .u64 0, .int .u64 0, .int .u64 0, .int .u64 0, .int .u64 0, .int .u64 0, .int .u64 0, .int .u64 0] 69)) b6 0 0 0 0 := Box.below rb644 ((Below.refl _ _).alloc (Nat.le_refl _) _) (Box.lt rb644)
        have mb6b5 : b6 < g44.heap.size := Box.lt rb644
        have rb554 : Row (g44.alloc (.cells #[.int .u64 0, .int .u64 0, .int .u64 0, .int .u64 0, .int .u64 0, .int .u64 0, .int .u64 0, .int .u64 0] 69)) g44.heap.size 8 (fun _ => 0) := by rw [zero8]; exact Row.new g44 69 8 _
        refine hK.out _ _ x54 (fun _ => ?_)
        clear hK K x44 rb644
        generalize g44.alloc (.cells #[.int .u64 0, .int .u64 0, .int .u64 0, .int .u64 0, .int .u64 0, .int .u64 0, .int .u64 0, .int .u64 0] 69) = g54 at x54 rb654 rb554 ⊢
        generalize g44.heap.size = b5 at lb5 mb6b5 rb554 ⊢
        refine wpAnyH_ready (rs := [1]) (by kernel_rfl) (by simp) ?_
        refine AllReadyH.cons op1 (fun K hK => ?_) AllReadyH.nil
        rw [if_pos (by rfl)]
        go_simp
        refine (widen_is a0 a1 a2 a3 _).mono ?_
        rintro e g55 ⟨rfl, hB⟩
        have x55 : D3 w a0 a1 a2 a3 b0 b1 b2 b3 g55 := x54.past hB
        have rb655 : Box g55 b6 0 0 0 0 := Box.below rb654 hB (Box.lt rb654)
        have rb555 : Row g55 b5 8 (fun _ => 0) := Row.below rb554 hB (Row.lt rb554 (by omega))
        clear hB x54 rb654 rb554
        (try go_wp2_with fail)
        refine hK.out _ _ x55 (fun _ => ?_)
        clear hK K
        refine wpAnyH_ready (rs := [3]) (by kernel_rfl) (by simp) ?_
        refine AllReadyH.cons op3 (fun K hK => ?_) AllReadyH.nil
        rw [if_pos (by rfl)]
        go_simp
        refine (DV.out _).mono ?_
        rintro e g56 ⟨⟨q, rfl, hq⟩, hB⟩
        have x56 : D3 w a0 a1 a2 a3 b0 b1 b2 b3 g56 := x55.past hB
        have rb656 : Box g56 b6 0 0 0 0 := Box.below rb655 hB (Box.lt rb655)
        have rb556 : Row g56 b5 8 (fun _ => 0) := Row.below rb555 hB (Row.lt rb555 (by omega))
        clear hB x55 rb655 rb555
        (try go_wp2_with fail)
        refine hK.out _ _ x56 (fun _ => ?_)
        clear hK K
        refine wpAnyH_take (i := 4) (v := .tuple #[.agg (rowL 8 q).toArray, .agg #[.int .u64 p0, .int .u64 p1, .int .u64 p2, .int .u64 p3]]) op4 (by kernel_rfl) (by kernel_rfl) (by kernel_rfl) (fun _ _ _ h => h) (Or.inl ⟨by rfl, fun W hS => ?_⟩) x56 ?_
        · go_simp
        simp only [Act.put, List.setIfInBounds_toArray, List.set_cons_zero, List.set_cons_succ]
        refine wpAnyH_take (i := 5) (v := .agg (rowL 8 q).toArray) op5 (by kernel_rfl) (by kernel_rfl) (by kernel_rfl) (fun _ _ _ h => h) (Or.inl ⟨by rfl, fun W hS => ?_⟩) x56 ?_
        · go_simp
        simp only [Act.put, List.setIfInBounds_toArray, List.set_cons_zero, List.set_cons_succ]
        refine wpAnyH_take (i := 6) (v := .agg #[.int .u64 p0, .int .u64 p1, .int .u64 p2, .int .u64 p3]) op6 (by kernel_rfl) (by kernel_rfl) (by kernel_rfl) (fun _ _ _ h => h) (Or.inl ⟨by rfl, fun W hS => ?_⟩) x56 ?_
        · go_simp
        simp only [Act.put, List.setIfInBounds_toArray, List.set_cons_zero, List.set_cons_succ]
        refine wpAnyH_ready (rs := [9]) (by kernel_rfl) (by simp) ?_
        refine AllReadyH.cons op9 (fun K hK => ?_) AllReadyH.nil
        rw [if_pos (by rfl)]
        refine wp_store_mid 69 _ _ rfl b5 0 (rowL 8 q).toArray rfl rfl (there_row rb556) (by rw [List.size_toArray, rowL_len]; kernel_rfl) (rowL_one 8 q) ?_
        show K _ (g56.setCells b5 0 (rowL 8 q))
        have x57 : D3 w a0 a1 a2 a3 b0 b1 b2 b3 (g56.setCells b5 0 (rowL 8 q)) := x56.cells _ _ _ lb5
        have rb657 : Box (g56.setCells b5 0 (rowL 8 q)) b6 0 0 0 0 := Box.cells rb656 _ _ _ (by omega)
        have rb557 : Row (g56.setCells b5 0 (rowL 8 q)) b5 8 q := Row.of_range rb556
        refine hK.out _ _ x57 (fun _ => ?_)
        clear hK K x56 rb656 rb556
        generalize g56.setCells b5 0 (rowL 8 q) = g57 at x57 rb657 rb557 ⊢
        simp only [Act.put]
        refine wpAnyH_ready (rs := [10]) (by kernel_rfl) (by simp) ?_
        refine AllReadyH.cons op10 (fun K hK => ?_) AllReadyH.nil
        rw [if_pos (by rfl)]
        obtain ⟨c0, c1, c2, c3, f0, f1, f2, f3⟩ := Box.facts rb657
        go_simp
        have x58 : D3 w a0 a1 a2 a3 b0 b1 b2 b3 ((((g57.setCell ⟨b6, 0, none⟩ (.int .u64 p0)).setCell ⟨b6, 1, none⟩ (.int .u64 p1)).setCell ⟨b6, 2, none⟩ (.int .u64 p2)).setCell ⟨b6, 3, none⟩ (.int .u64 p3)) := x57.cells b6 0 [_, _, _, _] lb6
        have rb658 : Box ((((g57.setCell ⟨b6, 0, none⟩ (.int .u64 p0)).setCell ⟨b6, 1, none⟩ (.int .u64 p1)).setCell ⟨b6, 2, none⟩ (.int .u64 p2)).setCell ⟨b6, 3, none⟩ (.int .u64 p3)) b6 p0 p1 p2 p3 := Box.put rb657 p0 p1 p2 p3
        have rb558 : Row ((((g57.setCell ⟨b6, 0, none⟩ (.int .u64 p0)).setCell ⟨b6, 1, none⟩ (.int .u64 p1)).setCell ⟨b6, 2, none⟩ (.int .u64 p2)).setCell ⟨b6, 3, none⟩ (.int .u64 p3)) b5 8 q := Row.set_others (c := b6) (by omega) [_, _, _, _] 0 rb557
        refine hK.out _ _ x58 (fun _ => ?_)
        clear hK K c0 c1 c2 c3 f0 f1 f2 f3 x57 rb657 rb557
        generalize ((((g57.setCell ⟨b6, 0, none⟩ (.int .u64 p0)).setCell ⟨b6, 1, none⟩ (.int .u64 p1)).setCell ⟨b6, 2, none⟩ (.int .u64 p2)).setCell ⟨b6, 3, none⟩ (.int .u64 p3)) = g58 at x58 rb658 rb558 ⊢
        (try simp only [Act.put])
        refine wpAnyH_done (by kernel_rfl) ?_ _
        go_wp2
        go_meet
        case rel => exact ⟨_, q, rfl, rb558, hq, x58⟩
  case rest =>
    obtain ⟨b5, q, rfl, hR, hq, hX⟩ := hcut
    obtain ⟨e0, e1, e2, e3⟩ := HZ.out.eq (QF.low hq MM0.out.1 MM0.out.2) rfl
    have XC : Hid (D3 w a0 a1 a2 a3 b0 b1 b2 b3 wc) := hX
    have RC : Hid (Row wc b5 8 q) := hR
    have EZ : Hid (∀ W : World, Calls Tryz.prog 83 #[.agg (rowL 8 q).toArray] W fun e w' => e = .returned (.agg #[.int .u64 z0, .int .u64 z1, .int .u64 z2, .int .u64 z3]) ∧ Below W.heap.size W w') := fun W => by rw [row_oct, e0, e1, e2, e3]; exact low_any _ _ _ _ _ _ _ _ W
    clear e0 e1 e2 e3 hR hq hX DV X0 HZ MM0
    go_wp2_with (first
      | refine load8 q b5 rfl _ rfl rfl (Row.range RC.out) ?_
      | (go_at_call 83; refine (EZ.out _).mono ?_; rintro e v2 ⟨rfl, hB⟩; (have X2 : Hid (D3 w a0 a1 a2 a3 b0 b1 b2 b3 v2) := XC.out.past hB); clear hB; obtain ⟨c0, c1, c2, c3, f0, f1, f2, f3⟩ := Box.facts X2.out.br))
    refine bodyPost_ret (v := .agg #[.int .u64 z0, .int .u64 z1, .int .u64 z2, .int .u64 z3]) ?_ rfl ⟨rfl, below_put X2.out.bel (by omega) z0 z1 z2 z3⟩
    exact results_c Tryz.results17 _ _ _ ⟨w.heap.size + 1 + 1, 0, none⟩ rfl (loadVar4 (Box.put X2.out.br z0 z1 z2 z3))
end Go.Proofs.YtpadpmkfhljiiaaGreat
