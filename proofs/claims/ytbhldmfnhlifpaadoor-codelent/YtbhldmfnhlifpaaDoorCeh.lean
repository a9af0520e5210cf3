/- What the document's Named answers. -/
import Derived.Test.YtbhldmfnhlifpaaDoorCeg
import Derived.Test.YtbhldmfnhlifpaaDoorRgn
namespace Go.Proofs.YtbhldmfnhlifpaaDoor
open Go.RowKit
set_option maxHeartbeats 4000000 in
set_option maxRecDepth 100000 in
theorem rnamed_is (w : World) (x0 C x3 : Int) (v : Value) (m : Nat) (b : Nat → Nat) (hm : m ≤ 140737488355328) (hv : BytesOf w v m b) : Calls Tryd.prog 36 #[.agg #[.int .i64 x0, .int .i64 C, v, .int .i64 x3]] w fun e w' => e = .returned (nmV (standsV x0 C x3 m (b 0)) C b) ∧ Below w.heap.size w w' := by
  have HS : Hid (∀ W : World, Below w.heap.size w W → Calls Tryd.prog 75 #[.agg #[.int .i64 x0, .int .i64 C, v, .int .i64 x3]] W fun e w' => e = .returned (.bool (standsV x0 C x3 m (b 0))) ∧ Below W.heap.size W w') := fun W hB => rstands_is W x0 C x3 v m b hm (hv.below rfl hB)
  obtain ⟨ad, cap, rfl, hb, _, hc⟩ := hv
  have B0 : Hid (Below w.heap.size w (w.alloc (.cells #[.int .i64 x0, .int .i64 C, .slice ad m cap, .int .i64 x3] 25))) := (Below.refl _ w).alloc (Nat.le_refl _) _
  have I0 : Hid (Ins4 (w.alloc (.cells #[.int .i64 x0, .int .i64 C, .slice ad m cap, .int .i64 x3] 25)) w.heap.size x0 C (.slice ad m cap) x3) := Ins4.new w x0 C ad m cap x3
  cases hs : standsV x0 C x3 m (b 0) with
  | false =>
    rw [hs] at HS
    clear hc hb
    obtain ⟨c0, c1, c2, c3⟩ := I0.out
    go_enter Tryd.func36, Tryd.ntmps36
    go_wp2_with (go_at_call 75; refine (HS.out _ B0.out).mono ?_; rintro e w1 ⟨rfl, hB⟩; (have B1 : Hid (Below w.heap.size w w1) := B0.out.trans (hB.mono B0.out.size)); clear hB)
    exact bodyPost_ret (results_tmp2 rfl _ _ _) rfl ⟨by unfold nmV; rw [if_neg (by simp)]; rfl, B1.out⟩
  | true =>
    rw [hs] at HS
    have p4 := (stands_parts hs).2.2.2.2
    by_cases hn : C = 227 ∨ C = 229 ∨ C = 209
    · have hm2 : m = 2 := by
        unfold fitsB at p4
        rcases hn with rfl | rfl | rfl
        · rw [show (227 : Int).toNat = 227 from rfl, imm_named.1, if_neg (by decide), decide_eq_true_eq] at p4; omega
        · rw [show (229 : Int).toNat = 229 from rfl, imm_named.2.1, if_neg (by decide), decide_eq_true_eq] at p4; omega
        · rw [show (209 : Int).toNat = 209 from rfl, imm_named.2.2.1, if_neg (by decide), decide_eq_true_eq] at p4; omega
      subst hm2
      obtain ⟨g, o, rfl, hcc⟩ := hc (by omega)
      have gl := World.block_lt_of_cell? w _ (hcc 0 (by omega))
      have EV : Hid (nmV true C b = .tuple #[.int .i64 ((256 * b 0 + b 1 : Nat) : Int), .bool true]) := by unfold nmV Hid; rw [if_pos rfl, if_pos hn]
      have HK : Hid (∀ W, Below w.heap.size w W → W.cell? ⟨g, o, none⟩ = some (.int .u8 (b 0 : Int)) ∧ W.cell? ⟨g, o + 1, none⟩ = some (.int .u8 (b 1 : Int))) := fun W hB => ⟨(hB.cell (p := ⟨g, o, none⟩) gl).trans (hcc 0 (by omega)), (hB.cell (p := ⟨g, o + 1, none⟩) gl).trans (hcc 1 (by omega))⟩
      have b0 := hb 0
      have b1 := hb 1
      generalize b 0 = Y0 at HK EV b0 hs p4
      generalize b 1 = Y1 at HK EV b1
      obtain ⟨P0, hP0⟩ : ∃ P0, P0 = 256 * Y0 := ⟨_, rfl⟩
      obtain ⟨P, hP⟩ : ∃ P, P = 256 * Y0 + Y1 := ⟨_, rfl⟩
      rw [← hP] at EV
      have r0 : (256 : Int) * (Y0 : Int) = (P0 : Int) := by omega
      have r1 : (P0 : Int) + (Y1 : Int) = (P : Int) := by omega
      have r2 : (P0 : Int) < 65536 := by omega
      have r3 : (P : Int) < 65536 := by omega
      have r4 : (Y0 : Int) < 256 := by omega
      have r5 : (Y1 : Int) < 256 := by omega
      have wY0 : IntKind.i64.wrap (Y0 : Int) = (Y0 : Int) := Go.IntWalk.i64_in _ (by omega)
      have wY1 : IntKind.i64.wrap (Y1 : Int) = (Y1 : Int) := Go.IntWalk.i64_in _ (by omega)
      have wP0 : IntKind.i64.wrap (P0 : Int) = (P0 : Int) := Go.IntWalk.i64_in _ (by omega)
      have wP : IntKind.i64.wrap (P : Int) = (P : Int) := Go.IntWalk.i64_in _ (by omega)
      have bp : True := trivial
      clear hs p4 hc hcc hb bp hP hP0 b0 b1
      rcases hn with rfl | rfl | rfl
      · skip
        obtain ⟨c0, c1, c2, c3⟩ := I0.out
        go_enter Tryd.func36, Tryd.ntmps36
        go_upto_region 4 with (go_at_call 75; refine (HS.out _ B0.out).mono ?_; rintro e w1 ⟨rfl, hB⟩; (have B1 : Hid (Below w.heap.size w w1) := B0.out.trans (hB.mono B0.out.size)); (have I1 : Hid (Ins4 w1 w.heap.size x0 _ (.slice (some ⟨g, o, none⟩) 2 cap) x3) := I0.out.past hB); clear hB)
        clear c0 c1 c2 c3
        obtain ⟨c0, c1, c2, c3⟩ := I1.out
        go_upto_region 8 with fail
        clear c0 c1 c2 c3
        refine wp_region_held_drew (S := fun V' => Below w.heap.size w V' ∧ Ins4 V' w.heap.size x0 227 (.slice (some ⟨g, o, none⟩) 2 cap) x3) (by kernel_rfl) ⟨B1.out.drew, I1.out⟩ (fun hHeld => ?_)
        generalize w1.drew = z0 at hHeld ⊢
        refine wpAnyH_take (i := 0) (v := .pointer (some ⟨w.heap.size, 2, none⟩)) op0 (by kernel_rfl) (by kernel_rfl) (by kernel_rfl) (fun _ _ _ h => h) (Or.inl ⟨by rfl, fun V' hS => ?_⟩) hHeld ?_
        · go_simp
        simp only [Act.put, List.setIfInBounds_toArray, List.set_cons_zero, List.set_cons_succ]
        refine wpAnyH_take (i := 1) (v := .slice (some ⟨g, o, none⟩) 2 cap) op1 (by kernel_rfl) (by kernel_rfl) (by kernel_rfl) (fun _ _ _ h => h) (Or.inl ⟨by rfl, fun V' hS => ?_⟩) hHeld ?_
        · have h1 := hS.2.2.2.1
          go_simp
        simp only [Act.put, List.setIfInBounds_toArray, List.set_cons_zero, List.set_cons_succ]
        refine wpAnyH_take (i := 2) (v := .pointer (some ⟨g, o, none⟩)) op2 (by kernel_rfl) (by kernel_rfl) (by kernel_rfl) (fun _ _ _ h => h) (Or.inl ⟨by rfl, fun V' hS => ?_⟩) hHeld ?_
        · go_simp
        simp only [Act.put, List.setIfInBounds_toArray, List.set_cons_zero, List.set_cons_succ]
        refine wpAnyH_take (i := 3) (v := .int .u8 (Y0 : Int)) op3 (by kernel_rfl) (by kernel_rfl) (by kernel_rfl) (fun _ _ _ h => h) (Or.inl ⟨by rfl, fun V' hS => ?_⟩) hHeld ?_
        · have h1 := (HK.out V' hS.1).1
          go_simp
        simp only [Act.put, List.setIfInBounds_toArray, List.set_cons_zero, List.set_cons_succ]
        refine wpAnyH_take (i := 4) (v := .int .i64 (Y0 : Int)) op4 (by kernel_rfl) (by kernel_rfl) (by kernel_rfl) (fun _ _ _ h => h) (Or.inl ⟨by rfl, fun V' hS => ?_⟩) hHeld ?_
        · go_simp
        simp only [Act.put, List.setIfInBounds_toArray, List.set_cons_zero, List.set_cons_succ]
        refine wpAnyH_take (i := 5) (v := .int .i64 (P0 : Int)) op5 (by kernel_rfl) (by kernel_rfl) (by kernel_rfl) (fun _ _ _ h => h) (Or.inl ⟨by rfl, fun V' hS => ?_⟩) hHeld ?_
        · go_simp
        simp only [Act.put, List.setIfInBounds_toArray, List.set_cons_zero, List.set_cons_succ]
        refine wpAnyH_take (i := 6) (v := .pointer (some ⟨w.heap.size, 2, none⟩)) op6 (by kernel_rfl) (by kernel_rfl) (by kernel_rfl) (fun _ _ _ h => h) (Or.inl ⟨by rfl, fun V' hS => ?_⟩) hHeld ?_
        · go_simp
        simp only [Act.put, List.setIfInBounds_toArray, List.set_cons_zero, List.set_cons_succ]
        refine wpAnyH_take (i := 7) (v := .slice (some ⟨g, o, none⟩) 2 cap) op7 (by kernel_rfl) (by kernel_rfl) (by kernel_rfl) (fun _ _ _ h => h) (Or.inl ⟨by rfl, fun V' hS => ?_⟩) hHeld ?_
        · have h1 := hS.2.2.2.1
          go_simp
        simp only [Act.put, List.setIfInBounds_toArray, List.set_cons_zero, List.set_cons_succ]
        refine wpAnyH_take (i := 8) (v := .pointer (some ⟨g, o + 1, none⟩)) op8 (by kernel_rfl) (by kernel_rfl) (by kernel_rfl) (fun _ _ _ h => h) (Or.inl ⟨by rfl, fun V' hS => ?_⟩) hHeld ?_
        · go_simp
        simp only [Act.put, List.setIfInBounds_toArray, List.set_cons_zero, List.set_cons_succ]
        refine wpAnyH_take (i := 9) (v := .int .u8 (Y1 : Int)) op9 (by kernel_rfl) (by kernel_rfl) (by kernel_rfl) (fun _ _ _ h => h) (Or.inl ⟨by rfl, fun V' hS => ?_⟩) hHeld ?_
        · have h1 := (HK.out V' hS.1).2
          go_simp
        simp only [Act.put, List.setIfInBounds_toArray, List.set_cons_zero, List.set_cons_succ]
        refine wpAnyH_take (i := 10) (v := .int .i64 (Y1 : Int)) op10 (by kernel_rfl) (by kernel_rfl) (by kernel_rfl) (fun _ _ _ h => h) (Or.inl ⟨by rfl, fun V' hS => ?_⟩) hHeld ?_
        · go_simp
        simp only [Act.put, List.setIfInBounds_toArray, List.set_cons_zero, List.set_cons_succ]
        refine wpAnyH_take (i := 11) (v := .int .i64 (P : Int)) op11 (by kernel_rfl) (by kernel_rfl) (by kernel_rfl) (fun _ _ _ h => h) (Or.inl ⟨by rfl, fun V' hS => ?_⟩) hHeld ?_
        · go_simp
        simp only [Act.put, List.setIfInBounds_toArray, List.set_cons_zero, List.set_cons_succ]
        refine wpAnyH_take (i := 12) (v := .int .i64 (P : Int)) op12 (by kernel_rfl) (by kernel_rfl) (by kernel_rfl) (fun _ _ _ h => h) (Or.inl ⟨by rfl, fun V' hS => ?_⟩) hHeld ?_
        · go_simp
        simp only [Act.put, List.setIfInBounds_toArray, List.set_cons_zero, List.set_cons_succ]
        refine wpAnyH_take (i := 13) (v := .bool true) op13 (by kernel_rfl) (by kernel_rfl) (by kernel_rfl) (fun _ _ _ h => h) (Or.inl ⟨by rfl, fun V' hS => ?_⟩) hHeld ?_
        · go_simp
        simp only [Act.put, List.setIfInBounds_toArray, List.set_cons_zero, List.set_cons_succ]
        refine wpAnyH_done (by kernel_rfl) ?_ _
        have B2 : Hid (Below w.heap.size w z0) := hHeld.1
        clear hHeld
        go_wp2
        exact bodyPost_ret (results_tmp2 rfl _ _ _) rfl ⟨by rw [EV.out]; rfl, B2.out⟩
      · skip
        obtain ⟨c0, c1, c2, c3⟩ := I0.out
        go_enter Tryd.func36, Tryd.ntmps36
        go_upto_region 4 with (go_at_call 75; refine (HS.out _ B0.out).mono ?_; rintro e w1 ⟨rfl, hB⟩; (have B1 : Hid (Below w.heap.size w w1) := B0.out.trans (hB.mono B0.out.size)); (have I1 : Hid (Ins4 w1 w.heap.size x0 _ (.slice (some ⟨g, o, none⟩) 2 cap) x3) := I0.out.past hB); clear hB)
        clear c0 c1 c2 c3
        obtain ⟨c0, c1, c2, c3⟩ := I1.out
        go_upto_region 8 with fail
        clear c0 c1 c2 c3
        refine wp_region_held_drew (S := fun V' => Below w.heap.size w V' ∧ Ins4 V' w.heap.size x0 229 (.slice (some ⟨g, o, none⟩) 2 cap) x3) (by kernel_rfl) ⟨B1.out.drew, I1.out⟩ (fun hHeld => ?_)
        generalize w1.drew = z0 at hHeld ⊢
        refine wpAnyH_take (i := 0) (v := .pointer (some ⟨w.heap.size, 2, none⟩)) op0 (by kernel_rfl) (by kernel_rfl) (by kernel_rfl) (fun _ _ _ h => h) (Or.inl ⟨by rfl, fun V' hS => ?_⟩) hHeld ?_
        · go_simp
        simp only [Act.put, List.setIfInBounds_toArray, List.set_cons_zero, List.set_cons_succ]
        refine wpAnyH_take (i := 1) (v := .slice (some ⟨g, o, none⟩) 2 cap) op1 (by kernel_rfl) (by kernel_rfl) (by kernel_rfl) (fun _ _ _ h => h) (Or.inl ⟨by rfl, fun V' hS => ?_⟩) hHeld ?_
        · have h1 := hS.2.2.2.1
          go_simp
        simp only [Act.put, List.setIfInBounds_toArray, List.set_cons_zero, List.set_cons_succ]
        refine wpAnyH_take (i := 2) (v := .pointer (some ⟨g, o, none⟩)) op2 (by kernel_rfl) (by kernel_rfl) (by kernel_rfl) (fun _ _ _ h => h) (Or.inl ⟨by rfl, fun V' hS => ?_⟩) hHeld ?_
        · go_simp
        simp only [Act.put, List.setIfInBounds_toArray, List.set_cons_zero, List.set_cons_succ]
        refine wpAnyH_take (i := 3) (v := .int .u8 (Y0 : Int)) op3 (by kernel_rfl) (by kernel_rfl) (by kernel_rfl) (fun _ _ _ h => h) (Or.inl ⟨by rfl, fun V' hS => ?_⟩) hHeld ?_
        · have h1 := (HK.out V' hS.1).1
          go_simp
        simp only [Act.put, List.setIfInBounds_toArray, List.set_cons_zero, List.set_cons_succ]
        refine wpAnyH_take (i := 4) (v := .int .i64 (Y0 : Int)) op4 (by kernel_rfl) (by kernel_rfl) (by kernel_rfl) (fun _ _ _ h => h) (Or.inl ⟨by rfl, fun V' hS => ?_⟩) hHeld ?_
        · go_simp
        simp only [Act.put, List.setIfInBounds_toArray, List.set_cons_zero, List.set_cons_succ]
        refine wpAnyH_take (i := 5) (v := .int .i64 (P0 : Int)) op5 (by kernel_rfl) (by kernel_rfl) (by kernel_rfl) (fun _ _ _ h => h) (Or.inl ⟨by rfl, fun V' hS => ?_⟩) hHeld ?_
        · go_simp
        simp only [Act.put, List.setIfInBounds_toArray, List.set_cons_zero, List.set_cons_succ]
        refine wpAnyH_take (i := 6) (v := .pointer (some ⟨w.heap.size, 2, none⟩)) op6 (by kernel_rfl) (by kernel_rfl) (by kernel_rfl) (fun _ _ _ h => h) (Or.inl ⟨by rfl, fun V' hS => ?_⟩) hHeld ?_
        · go_simp
        simp only [Act.put, List.setIfInBounds_toArray, List.set_cons_zero, List.set_cons_succ]
        refine wpAnyH_take (i := 7) (v := .slice (some ⟨g, o, none⟩) 2 cap) op7 (by kernel_rfl) (by kernel_rfl) (by kernel_rfl) (fun _ _ _ h => h) (Or.inl ⟨by rfl, fun V' hS => ?_⟩) hHeld ?_
        · have h1 := hS.2.2.2.1
          go_simp
        simp only [Act.put, List.setIfInBounds_toArray, List.set_cons_zero, List.set_cons_succ]
        refine wpAnyH_take (i := 8) (v := .pointer (some ⟨g, o + 1, none⟩)) op8 (by kernel_rfl) (by kernel_rfl) (by kernel_rfl) (fun _ _ _ h => h) (Or.inl ⟨by rfl, fun V' hS => ?_⟩) hHeld ?_
        · go_simp
        simp only [Act.put, List.setIfInBounds_toArray, List.set_cons_zero, List.set_cons_succ]
        refine wpAnyH_take (i := 9) (v := .int .u8 (Y1 : Int)) op9 (by kernel_rfl) (by kernel_rfl) (by kernel_rfl) (fun _ _ _ h => h) (Or.inl ⟨by rfl, fun V' hS => ?_⟩) hHeld ?_
        · have h1 := (HK.out V' hS.1).2
          go_simp
        simp only [Act.put, List.setIfInBounds_toArray, List.set_cons_zero, List.set_cons_succ]
        refine wpAnyH_take (i := 10) (v := .int .i64 (Y1 : Int)) op10 (by kernel_rfl) (by kernel_rfl) (by kernel_rfl) (fun _ _ _ h => h) (Or.inl ⟨by rfl, fun V' hS => ?_⟩) hHeld ?_
        · go_simp
        simp only [Act.put, List.setIfInBounds_toArray, List.set_cons_zero, List.set_cons_succ]
        refine wpAnyH_take (i := 11) (v := .int .i64 (P : Int)) op11 (by kernel_rfl) (by kernel_rfl) (by kernel_rfl) (fun _ _ _ h => h) (Or.inl ⟨by rfl, fun V' hS => ?_⟩) hHeld ?_
        · go_simp
        simp only [Act.put, List.setIfInBounds_toArray, List.set_cons_zero, List.set_cons_succ]
        refine wpAnyH_take (i := 12) (v := .int .i64 (P : Int)) op12 (by kernel_rfl) (by kernel_rfl) (by kernel_rfl) (fun _ _ _ h => h) (Or.inl ⟨by rfl, fun V' hS => ?_⟩) hHeld ?_
        · go_simp
        simp only [Act.put, List.setIfInBounds_toArray, List.set_cons_zero, List.set_cons_succ]
        refine wpAnyH_take (i := 13) (v := .bool true) op13 (by kernel_rfl) (by kernel_rfl) (by kernel_rfl) (fun _ _ _ h => h) (Or.inl ⟨by rfl, fun V' hS => ?_⟩) hHeld ?_
        · go_simp
        simp only [Act.put, List.setIfInBounds_toArray, List.set_cons_zero, List.set_cons_succ]
        refine wpAnyH_done (by kernel_rfl) ?_ _
        have B2 : Hid (Below w.heap.size w z0) := hHeld.1
        clear hHeld
        go_wp2
        exact bodyPost_ret (results_tmp2 rfl _ _ _) rfl ⟨by rw [EV.out]; rfl, B2.out⟩
      · skip
        obtain ⟨c0, c1, c2, c3⟩ := I0.out
        go_enter Tryd.func36, Tryd.ntmps36
        go_upto_region 4 with (go_at_call 75; refine (HS.out _ B0.out).mono ?_; rintro e w1 ⟨rfl, hB⟩; (have B1 : Hid (Below w.heap.size w w1) := B0.out.trans (hB.mono B0.out.size)); (have I1 : Hid (Ins4 w1 w.heap.size x0 _ (.slice (some ⟨g, o, none⟩) 2 cap) x3) := I0.out.past hB); clear hB)
        clear c0 c1 c2 c3
        obtain ⟨c0, c1, c2, c3⟩ := I1.out
        go_upto_region 8 with fail
        clear c0 c1 c2 c3
        refine wp_region_held_drew (S := fun V' => Below w.heap.size w V' ∧ Ins4 V' w.heap.size x0 209 (.slice (some ⟨g, o, none⟩) 2 cap) x3) (by kernel_rfl) ⟨B1.out.drew, I1.out⟩ (fun hHeld => ?_)
        generalize w1.drew = z0 at hHeld ⊢
        refine wpAnyH_take (i := 0) (v := .pointer (some ⟨w.heap.size, 2, none⟩)) op0 (by kernel_rfl) (by kernel_rfl) (by kernel_rfl) (fun _ _ _ h => h) (Or.inl ⟨by rfl, fun V' hS => ?_⟩) hHeld ?_
        · go_simp
        simp only [Act.put, List.setIfInBounds_toArray, List.set_cons_zero, List.set_cons_succ]
        refine wpAnyH_take (i := 1) (v := .slice (some ⟨g, o, none⟩) 2 cap) op1 (by kernel_rfl) (by kernel_rfl) (by kernel_rfl) (fun _ _ _ h => h) (Or.inl ⟨by rfl, fun V' hS => ?_⟩) hHeld ?_
        · have h1 := hS.2.2.2.1
          go_simp
        simp only [Act.put, List.setIfInBounds_toArray, List.set_cons_zero, List.set_cons_succ]
        refine wpAnyH_take (i := 2) (v := .pointer (some ⟨g, o, none⟩)) op2 (by kernel_rfl) (by kernel_rfl) (by kernel_rfl) (fun _ _ _ h => h) (Or.inl ⟨by rfl, fun V' hS => ?_⟩) hHeld ?_
        · go_simp
        simp only [Act.put, List.setIfInBounds_toArray, List.set_cons_zero, List.set_cons_succ]
        refine wpAnyH_take (i := 3) (v := .int .u8 (Y0 : Int)) op3 (by kernel_rfl) (by kernel_rfl) (by kernel_rfl) (fun _ _ _ h => h) (Or.inl ⟨by rfl, fun V' hS => ?_⟩) hHeld ?_
        · have h1 := (HK.out V' hS.1).1
          go_simp
        simp only [Act.put, List.setIfInBounds_toArray, List.set_cons_zero, List.set_cons_succ]
        refine wpAnyH_take (i := 4) (v := .int .i64 (Y0 : Int)) op4 (by kernel_rfl) (by kernel_rfl) (by kernel_rfl) (fun _ _ _ h => h) (Or.inl ⟨by rfl, fun V' hS => ?_⟩) hHeld ?_
        · go_simp
        simp only [Act.put, List.setIfInBounds_toArray, List.set_cons_zero, List.set_cons_succ]
        refine wpAnyH_take (i := 5) (v := .int .i64 (P0 : Int)) op5 (by kernel_rfl) (by kernel_rfl) (by kernel_rfl) (fun _ _ _ h => h) (Or.inl ⟨by rfl, fun V' hS => ?_⟩) hHeld ?_
        · go_simp
        simp only [Act.put, List.setIfInBounds_toArray, List.set_cons_zero, List.set_cons_succ]
        refine wpAnyH_take (i := 6) (v := .pointer (some ⟨w.heap.size, 2, none⟩)) op6 (by kernel_rfl) (by kernel_rfl) (by kernel_rfl) (fun _ _ _ h => h) (Or.inl ⟨by rfl, fun V' hS => ?_⟩) hHeld ?_
        · go_simp
        simp only [Act.put, List.setIfInBounds_toArray, List.set_cons_zero, List.set_cons_succ]
        refine wpAnyH_take (i := 7) (v := .slice (some ⟨g, o, none⟩) 2 cap) op7 (by kernel_rfl) (by kernel_rfl) (by kernel_rfl) (fun _ _ _ h => h) (Or.inl ⟨by rfl, fun V' hS => ?_⟩) hHeld ?_
        · have h1 := hS.2.2.2.1
          go_simp
        simp only [Act.put, List.setIfInBounds_toArray, List.set_cons_zero, List.set_cons_succ]
        refine wpAnyH_take (i := 8) (v := .pointer (some ⟨g, o + 1, none⟩)) op8 (by kernel_rfl) (by kernel_rfl) (by kernel_rfl) (fun _ _ _ h => h) (Or.inl ⟨by rfl, fun V' hS => ?_⟩) hHeld ?_
        · go_simp
        simp only [Act.put, List.setIfInBounds_toArray, List.set_cons_zero, List.set_cons_succ]
        refine wpAnyH_take (i := 9) (v := .int .u8 (Y1 : Int)) op9 (by kernel_rfl) (by kernel_rfl) (by kernel_rfl) (fun _ _ _ h => h) (Or.inl ⟨by rfl, fun V' hS => ?_⟩) hHeld ?_
        · have h1 := (HK.out V' hS.1).2
          go_simp
        simp only [Act.put, List.setIfInBounds_toArray, List.set_cons_zero, List.set_cons_succ]
        refine wpAnyH_take (i := 10) (v := .int .i64 (Y1 : Int)) op10 (by kernel_rfl) (by kernel_rfl) (by kernel_rfl) (fun _ _ _ h => h) (Or.inl ⟨by rfl, fun V' hS => ?_⟩) hHeld ?_
        · go_simp
        simp only [Act.put, List.setIfInBounds_toArray, List.set_cons_zero, List.set_cons_succ]
        refine wpAnyH_take (i := 11) (v := .int .i64 (P : Int)) op11 (by kernel_rfl) (by kernel_rfl) (by kernel_rfl) (fun _ _ _ h => h) (Or.inl ⟨by rfl, fun V' hS => ?_⟩) hHeld ?_
        · go_simp
        simp only [Act.put, List.setIfInBounds_toArray, List.set_cons_zero, List.set_cons_succ]
        refine wpAnyH_take (i := 12) (v := .int .i64 (P : Int)) op12 (by kernel_rfl) (by kernel_rfl) (by kernel_rfl) (fun _ _ _ h => h) (Or.inl ⟨by rfl, fun V' hS => ?_⟩) hHeld ?_
        · go_simp
        simp only [Act.put, List.setIfInBounds_toArray, List.set_cons_zero, List.set_cons_succ]
        refine wpAnyH_take (i := 13) (v := .bool true) op13 (by kernel_rfl) (by kernel_rfl) (by kernel_rfl) (fun _ _ _ h => h) (Or.inl ⟨by rfl, fun V' hS => ?_⟩) hHeld ?_
        · go_simp
        simp only [Act.put, List.setIfInBounds_toArray, List.set_cons_zero, List.set_cons_succ]
        refine wpAnyH_done (by kernel_rfl) ?_ _
        have B2 : Hid (Below w.heap.size w z0) := hHeld.1
        clear hHeld
        go_wp2
        exact bodyPost_ret (results_tmp2 rfl _ _ _) rfl ⟨by rw [EV.out]; rfl, B2.out⟩
    · by_cases hn1 : C = 236 ∨ C = 238
      · have hm1 : m = 1 := by
          unfold fitsB at p4
          rcases hn1 with rfl | rfl
          · rw [show (236 : Int).toNat = 236 from rfl, imm_named.2.2.2.1, if_neg (by decide), decide_eq_true_eq] at p4; omega
          · rw [show (238 : Int).toNat = 238 from rfl, imm_named.2.2.2.2, if_neg (by decide), decide_eq_true_eq] at p4; omega
        subst hm1
        obtain ⟨g, o, rfl, hcc⟩ := hc (by omega)
        have k0 := hcc 0 (by omega)
        have gl := World.block_lt_of_cell? w _ k0
        have EV : Hid (nmV true C b = .tuple #[.int .i64 (b 0 : Int), .bool true]) := by unfold nmV Hid; rw [if_pos rfl, if_neg hn, if_pos hn1]
        have b0 := hb 0
        have HK : Hid (∀ W, Below w.heap.size w W → W.cell? ⟨g, o, none⟩ = some (.int .u8 (b 0 : Int))) := fun W hB => (hB.cell (p := ⟨g, o, none⟩) gl).trans k0
        generalize b 0 = P at HK EV b0 hs p4
        have PI1 : (P : Int) < 256 := by omega
        clear hs p4 hc hcc hb k0 hn
        rcases hn1 with rfl | rfl
        all_goals
          obtain ⟨c0, c1, c2, c3⟩ := I0.out
          go_enter Tryd.func36, Tryd.ntmps36
          go_upto_region 4 with (go_at_call 75; refine (HS.out _ B0.out).mono ?_; rintro e w1 ⟨rfl, hB⟩; (have B1 : Hid (Below w.heap.size w w1) := B0.out.trans (hB.mono B0.out.size)); (have I1 : Hid (Ins4 w1 w.heap.size x0 _ (.slice (some ⟨g, o, none⟩) 1 cap) x3) := I0.out.past hB); clear hB)
          clear c0 c1 c2 c3
          obtain ⟨c0, c1, c2, c3⟩ := I1.out
          have k1 := HK.out w1 B1.out
          go_wp2
          exact bodyPost_ret (results_tmp2 rfl _ _ _) rfl ⟨by rw [EV.out]; rfl, B1.out⟩
      · have EV : Hid (nmV true C b = .tuple #[.int .i64 0, .bool false]) := by unfold nmV Hid; rw [if_pos rfl, if_neg hn, if_neg hn1]
        have m1 : C ≠ 227 := fun h => hn (Or.inl h)
        have m2 : C ≠ 229 := fun h => hn (Or.inr (Or.inl h))
        have m3 : C ≠ 209 := fun h => hn (Or.inr (Or.inr h))
        have m4 : C ≠ 236 := fun h => hn1 (Or.inl h)
        have m5 : C ≠ 238 := fun h => hn1 (Or.inr h)
        clear hs p4 hc hb hn hn1
        obtain ⟨c0, c1, c2, c3⟩ := I0.out
        go_enter Tryd.func36, Tryd.ntmps36
        go_upto_region 4 with (go_at_call 75; refine (HS.out _ B0.out).mono ?_; rintro e w1 ⟨rfl, hB⟩; (have B1 : Hid (Below w.heap.size w w1) := B0.out.trans (hB.mono B0.out.size)); (have I1 : Hid (Ins4 w1 w.heap.size x0 C (.slice ad m cap) x3) := I0.out.past hB); clear hB)
        clear c0 c1 c2 c3
        obtain ⟨c0, c1, c2, c3⟩ := I1.out
        go_wp2
        exact bodyPost_ret (results_tmp2 rfl _ _ _) rfl ⟨by rw [EV.out]; rfl, B1.out⟩
end Go.Proofs.YtbhldmfnhlifpaaDoor
