/- The document's Stands, distance. -/
import Derived.Test.YtcjmbpchdeapiaaDoorCrb
namespace Go.Proofs.YtcjmbpchdeapiaaDoor
open Go.RowKit
set_option maxHeartbeats 4000000 in
set_option maxRecDepth 100000 in
theorem rstands_is (w : World) (x0 C x3 : Int) (v : Value) (m : Nat) (b : Nat → Nat) (hm : m ≤ 140737488355328) (hv : BytesOf w v m b) : Calls Tryd.prog 40 #[.agg #[.int .i64 x0, .int .i64 C, v, .int .i64 x3]] w fun e w' => e = .returned (.bool (standsV x0 C x3 m (b 0))) ∧ Below w.heap.size w w' := by
  have hb0 : b 0 < 256 := by obtain ⟨_, _, _, h, _⟩ := hv; exact h 0
  obtain ⟨ad, cap, rfl, _, hnil, hc⟩ := hv
  have HCE : Hid (∀ W, Below w.heap.size w W → m ≠ 0 → ∃ g o, ad = some ⟨g, o, none⟩ ∧ W.cell? ⟨g, o, none⟩ = some (.int .u8 (b 0 : Int))) := fun W hB h0 => by
    obtain ⟨g, o, e, hcc⟩ := hc h0
    have h := hcc 0 (by omega)
    exact ⟨g, o, e, (hB.cell (p := ⟨g, o, none⟩) (World.block_lt_of_cell? w _ h)).trans h⟩
  have I0 : Hid (Ins4 (w.alloc (.cells #[.int .i64 x0, .int .i64 C, .slice ad m cap, .int .i64 x3] 40)) w.heap.size x0 C (.slice ad m cap) x3) := Ins4.new w x0 C ad m cap x3
  have B0 : Hid (Below w.heap.size w (w.alloc (.cells #[.int .i64 x0, .int .i64 C, .slice ad m cap, .int .i64 x3] 40))) := (Below.refl _ w).alloc (Nat.le_refl _) _
  have mI : (m : Int) ≤ 140737488355328 := by omega
  have HSV : Hid (standsV x0 C x3 m (b 0) = (decide (0 ≤ x0 ∧ x0 ≤ 1048576 ∧ x3 = x0 + 1 + m) && (opB C && fitsB (immT C.toNat) m (b 0)))) := rfl
  generalize standsV x0 C x3 m (b 0) = sv at HSV ⊢
  generalize b 0 = t at HCE HSV hb0
  clear hc hnil
  obtain ⟨c0, c1, c2, c3⟩ := I0.out
  cases hop : opB C with
  | false =>
    have HO : Hid (∀ W, Calls Tryd.prog 26 #[.int .i64 C] W fun e w' => e = .returned (.tuple #[.agg #[.int .i64 0, .string ⟨#[]⟩, .int .i64 0, .int .i64 0, .int .i64 0, .int .i64 0, .bool false], .bool false]) ∧ Below W.heap.size W w') := fun W => by have := rof_any C W; rw [hop, show opV C = opz by unfold opV; rw [hop, if_neg (by decide)]] at this; exact this
    have HF : Hid (sv = false) := by unfold Hid; rw [HSV.out, hop, Bool.false_and, Bool.and_false]
    clear hop HSV
    go_enter Tryd.func40, Tryd.ntmps40
    go_wp2_with (go_at_call 26; refine (HO.out _).mono ?_; rintro e w1 ⟨rfl, hB⟩; (have B1 : Hid (Below w.heap.size w (w1.alloc (.cells #[.int .i64 0, .string ⟨#[]⟩, .int .i64 0, .int .i64 0, .int .i64 0, .int .i64 0, .bool false] 56))) := (B0.out.trans (hB.mono B0.out.size)).alloc (Nat.le_trans B0.out.size hB.size) _); clear hB c0 c1 c2 c3)
    go_ret
    exact ⟨by rw [HF.out]; rfl, B1.out⟩
  | true =>
    have hCr : 0 ≤ C ∧ C < 256 ∧ isOp C.toNat = true := by
      unfold opB at hop
      rw [Bool.and_eq_true, decide_eq_true_eq] at hop
      exact ⟨hop.1.1, hop.1.2, hop.2⟩
    obtain ⟨c, rfl⟩ : ∃ c : Nat, C = (c : Int) := ⟨C.toNat, by omega⟩
    rw [Int.toNat_natCast] at HSV hCr
    have hri := of_decide_eq_true (imm_range ⟨c, by omega⟩)
    have HO : Hid (∀ W, Calls Tryd.prog 26 #[.int .i64 (c : Int)] W fun e w' => e = .returned (.tuple #[opv c, .bool true]) ∧ Below W.heap.size W w') := fun W => by have := rof_any (c : Int) W; rw [(ofB c (by omega) hCr.2.2).1, (ofB c (by omega) hCr.2.2).2] at this; exact this
    unfold opv at HO
    rw [hop, Bool.true_and] at HSV
    dsimp only at hri
    generalize nameT c = s at HO
    generalize immT c = i1 at HO HSV hri
    generalize inT c = i2 at HO
    generalize outT c = i3 at HO
    generalize gasT c = i4 at HO
    generalize endsT c = b5 at HO
    have HR : Hid (i1 = -1 ∨ (0 ≤ i1 ∧ i1 ≤ 32)) := hri
    clear hop hCr hri
    go_enter Tryd.func40, Tryd.ntmps40
    go_upto_region 2 with (go_at_call 26; refine (HO.out _).mono ?_; rintro e w1 ⟨rfl, hB⟩; (have B1 : Hid (Below w.heap.size w (w1.alloc (.cells #[.int .i64 (c : Int), .string s, .int .i64 i1, .int .i64 i2, .int .i64 i3, .int .i64 i4, .bool b5] 56)) ∧ Ins4 (w1.alloc (.cells #[.int .i64 (c : Int), .string s, .int .i64 i1, .int .i64 i2, .int .i64 i3, .int .i64 i4, .bool b5] 56)) w.heap.size x0 (c : Int) (.slice ad m cap) x3 ∧ Op7 (w1.alloc (.cells #[.int .i64 (c : Int), .string s, .int .i64 i1, .int .i64 i2, .int .i64 i3, .int .i64 i4, .bool b5] 56)) w1.heap.size (c : Int) s i1 i2 i3 i4 b5) := ⟨(B0.out.trans (hB.mono B0.out.size)).alloc (Nat.le_trans B0.out.size hB.size) _, (I0.out.past hB).past ((Below.refl _ w1).alloc (Nat.le_refl _) _), Op7.new w1 _ s i1 i2 i3 i4 b5⟩); clear hB c0 c1 c2 c3 HO I0 B0)
    generalize w1.alloc (.cells #[.int .i64 (c : Int), .string s, .int .i64 i1, .int .i64 i2, .int .i64 i3, .int .i64 i4, .bool b5] 56) = w2 at B1 ⊢
    generalize w1.heap.size = q6 at B1 ⊢
    obtain ⟨c0, c1, c2, c3⟩ := B1.out.2.1
    obtain ⟨o0, o1, o2, oR⟩ := B1.out.2.2
    clear oR
    by_cases h1 : x0 < 0
    · have HF : Hid (sv = false) := by unfold Hid; rw [HSV.out, decide_eq_false (by omega), Bool.false_and]
      clear HSV
      go_wp2
      go_ret
      exact ⟨by rw [HF.out]; rfl, B1.out.1⟩
    · by_cases h2 : 1048576 < x0
      · have HF : Hid (sv = false) := by unfold Hid; rw [HSV.out, decide_eq_false (by omega), Bool.false_and]
        clear HSV
        go_wp2
        go_ret
        exact ⟨by rw [HF.out]; rfl, B1.out.1⟩
      · have x0r : 0 ≤ x0 ∧ x0 ≤ 1048576 := by omega
        have HFN : Hid (∀ n : Nat, fitsB i1 m t = decide (m = n) → sv = (decide ((m : Int) = (n : Int)) && decide (x3 = x0 + 1 + (n : Int)))) := fun n hn => by
          rw [HSV.out, hn]
          by_cases e : m = n
          · subst e
            rw [decide_eq_true rfl, decide_eq_true rfl, Bool.and_true, Bool.true_and]
            by_cases e2 : x3 = x0 + 1 + (m : Int)
            · rw [decide_eq_true e2, decide_eq_true ⟨by omega, by omega, e2⟩]
            · rw [decide_eq_false e2, decide_eq_false (by omega)]
          · rw [decide_eq_false e, Bool.and_false, decide_eq_false (show ¬ (m : Int) = (n : Int) by omega), Bool.false_and]
        by_cases hi1 : i1 = -1
        · subst hi1
          by_cases hm0 : m = 0
          · have HF : Hid (sv = false) := by unfold Hid; rw [HSV.out, show fitsB (-1) m t = false by unfold fitsB; rw [if_pos rfl, decide_eq_false (by omega)], Bool.and_false]
            have m0 : (m : Int) = 0 := by omega
            clear HSV HFN
            subst hm0
            go_wp2
            go_ret
            exact ⟨by rw [HF.out]; rfl, B1.out.1⟩
          · obtain ⟨g, o, rfl, ct⟩ := HCE.out w2 B1.out.1 hm0
            have m0 : ((m : Int) == 0) = false := by rw [beq_eq_false_iff_ne]; omega
            have m1 : (0 : Int) < (m : Int) := by omega
            obtain ⟨T2, hT2⟩ : ∃ T2 : Nat, T2 = 2 * t := ⟨_, rfl⟩
            obtain ⟨n, hn⟩ : ∃ n : Nat, n = 3 + T2 := ⟨_, rfl⟩
            have y1 : (2 : Int) * (t : Int) = (T2 : Int) := by omega
            have y2 : (3 : Int) + (T2 : Int) = (n : Int) := by omega
            have y3 : (n : Int) ≤ 1000 := by omega
            have HF : Hid (sv = (decide ((m : Int) = (n : Int)) && decide (x3 = x0 + 1 + (n : Int)))) := HFN.out n (by unfold fitsB; rw [if_pos rfl, show 1 + 2 * (t + 1) = n by omega])
            obtain ⟨x4, hx4⟩ : ∃ x4, x4 = x0 + 1 := ⟨_, rfl⟩
            obtain ⟨x5, hx5⟩ : ∃ x5, x5 = x4 + (n : Int) := ⟨_, rfl⟩
            have z1 : x0 + 1 = x4 := hx4.symm
            have z2 : x4 + (n : Int) = x5 := hx5.symm
            have z3 : IntKind.i64.wrap x4 = x4 := Go.IntWalk.i64_in _ (by omega)
            have z4 : IntKind.i64.wrap x5 = x5 := Go.IntWalk.i64_in _ (by omega)
            rw [z1, z2] at HF
            clear HSV HFN hT2 hn hx4 hx5 hm0
            by_cases e1 : (m : Int) = (n : Int)
            · have e1b : ((m : Int) == (n : Int)) = true := by rw [beq_iff_eq]; exact e1
              by_cases e2 : x3 = x5
              · have e2b : (x3 == x5) = true := by rw [beq_iff_eq]; exact e2
                have HG : Hid (sv = true) := by unfold Hid; rw [HF.out, decide_eq_true e1, decide_eq_true e2]; try rfl
                clear e1 e2 HF
                go_wp2
                go_ret
                exact ⟨by rw [HG.out]; rfl, B1.out.1⟩
              · have e2b : (x3 == x5) = false := by rw [beq_eq_false_iff_ne]; exact e2
                have HG : Hid (sv = false) := by unfold Hid; rw [HF.out, decide_eq_false e2, Bool.and_false]
                clear e1 e2 HF
                go_wp2
                go_ret
                exact ⟨by rw [HG.out]; rfl, B1.out.1⟩
            · have e1b : ((m : Int) == (n : Int)) = false := by rw [beq_eq_false_iff_ne]; exact e1
              have HG : Hid (sv = false) := by unfold Hid; rw [HF.out, decide_eq_false e1]; try rfl
              clear e1 HF
              go_wp2
              go_ret
              exact ⟨by rw [HG.out]; rfl, B1.out.1⟩
        · obtain ⟨n, rfl⟩ : ∃ n : Nat, i1 = (n : Int) := ⟨i1.toNat, by have := HR.out; omega⟩
          have HF : Hid (sv = (decide ((m : Int) = (n : Int)) && decide (x3 = x0 + 1 + (n : Int)))) := HFN.out n (by unfold fitsB; rw [if_neg hi1]; exact decide_eq_decide.2 (by omega))
          have i9 : ((n : Int) == -1) = false := by rw [beq_eq_false_iff_ne]; omega
          have y3 : (n : Int) ≤ 1000 := by have := HR.out; omega
          obtain ⟨x4, hx4⟩ : ∃ x4, x4 = x0 + 1 := ⟨_, rfl⟩
          obtain ⟨x5, hx5⟩ : ∃ x5, x5 = x4 + (n : Int) := ⟨_, rfl⟩
          have z1 : x0 + 1 = x4 := hx4.symm
          have z2 : x4 + (n : Int) = x5 := hx5.symm
          have z3 : IntKind.i64.wrap x4 = x4 := Go.IntWalk.i64_in _ (by omega)
          have z4 : IntKind.i64.wrap x5 = x5 := Go.IntWalk.i64_in _ (by omega)
          rw [z1, z2] at HF
          clear HSV HFN hx4 hx5 hi1
          by_cases e1 : (m : Int) = (n : Int)
          · have e1b : ((m : Int) == (n : Int)) = true := by rw [beq_iff_eq]; exact e1
            by_cases e2 : x3 = x5
            · have e2b : (x3 == x5) = true := by rw [beq_iff_eq]; exact e2
              have HG : Hid (sv = true) := by unfold Hid; rw [HF.out, decide_eq_true e1, decide_eq_true e2]; try rfl
              clear e1 e2 HF
              go_wp2
              go_ret
              exact ⟨by rw [HG.out]; rfl, B1.out.1⟩
            · have e2b : (x3 == x5) = false := by rw [beq_eq_false_iff_ne]; exact e2
              have HG : Hid (sv = false) := by unfold Hid; rw [HF.out, decide_eq_false e2, Bool.and_false]
              clear e1 e2 HF
              go_wp2
              go_ret
              exact ⟨by rw [HG.out]; rfl, B1.out.1⟩
          · have e1b : ((m : Int) == (n : Int)) = false := by rw [beq_eq_false_iff_ne]; exact e1
            have HG : Hid (sv = false) := by unfold Hid; rw [HF.out, decide_eq_false e1]; try rfl
            clear e1 HF
            go_wp2
            go_ret
            exact ⟨by rw [HG.out]; rfl, B1.out.1⟩
/-- the document's distance -/
theorem rdist_is (w : World) (v : Value) (m : Nat) (b : Nat → Nat) (k : Nat) (hm : m ≤ 140737488355328) (hv : BytesOf w v m b) (hk : k + 1 < m) : Calls Tryd.prog 41 #[v, .int .i64 (k : Int)] w fun e w' => e = .returned (.int .i64 (dist16 (b k) (b (k + 1)))) ∧ Below w.heap.size w w' := by
  obtain ⟨ad, cap, rfl, hb, _, hc⟩ := hv
  obtain ⟨g, o, rfl, hcc⟩ := hc (by omega)
  have d0 := hcc k (by omega)
  have d1 := hcc (k + 1) (by omega)
  have gx := hb k
  have gy := hb (k + 1)
  obtain ⟨k1, hk1⟩ : ∃ k1, k1 = k + 1 := ⟨_, rfl⟩
  rw [← hk1] at d1 gy ⊢
  have HD : Hid (dist16 (b k) (b k1) = if 256 * b k + b k1 < 32768 then ((256 * b k + b k1 : Nat) : Int) else ((256 * b k + b k1 : Nat) : Int) - 65536) := rfl
  generalize dist16 (b k) (b k1) = dd at HD ⊢
  generalize b k = x at d0 gx HD
  generalize b k1 = y at d1 gy HD
  have kI : (k : Int) < (m : Int) := by omega
  have kI1 : (k1 : Int) < (m : Int) := by omega
  have ek : (k : Int) + 1 = (k1 : Int) := by omega
  have mI : (m : Int) ≤ 140737488355328 := by omega
  obtain ⟨X, hX⟩ : ∃ X : Nat, X = 256 * x := ⟨_, rfl⟩
  obtain ⟨Z, hZ⟩ : ∃ Z : Nat, Z = X + y := ⟨_, rfl⟩
  rw [show 256 * x + y = Z by omega] at HD
  have e1 : (256 : Int) * (x : Int) = (X : Int) := by omega
  have e2 : (X : Int) + (y : Int) = (Z : Int) := by omega
  have zI : (Z : Int) ≤ 65535 := by omega
  have xI : (x : Int) < 256 := by omega
  have yI : (y : Int) < 256 := by omega
  have wx : IntKind.i64.wrap (x : Int) = (x : Int) := Go.IntWalk.i64_in _ (by omega)
  have wy : IntKind.i64.wrap (y : Int) = (y : Int) := Go.IntWalk.i64_in _ (by omega)
  have wX : IntKind.i64.wrap (X : Int) = (X : Int) := Go.IntWalk.i64_in _ (by omega)
  have wZ : IntKind.i64.wrap (Z : Int) = (Z : Int) := Go.IntWalk.i64_in _ (by omega)
  have wk : IntKind.i64.wrap (k1 : Int) = (k1 : Int) := Go.IntWalk.i64_in _ (by omega)
  clear hX hZ hcc hc hb hk1 hk
  go_enter Tryd.func41, Tryd.ntmps41
  go_upto_region 1 with fail
  refine wp_region_held_drew (S := fun V' => V'.cell? ⟨g, o + k, none⟩ = some (.int .u8 (x : Int)) ∧ V'.cell? ⟨g, o + k1, none⟩ = some (.int .u8 (y : Int)) ∧ Below w.heap.size w V') (by kernel_rfl) ⟨d0, d1, (Below.refl _ w).drew⟩ (fun hHeld => ?_)
  generalize w.drew = z0 at hHeld ⊢
  clear d0 d1
  refine wpAnyH_take (i := 0) (v := .slice (some ⟨g, o, none⟩) m cap) op0 (by kernel_rfl) (by kernel_rfl) (by kernel_rfl) (fun _ _ _ h => h) (Or.inl ⟨by rfl, fun V' hS => ?_⟩) hHeld ?_
  · go_simp
  simp only [Act.put, List.setIfInBounds_toArray, List.set_cons_zero, List.set_cons_succ]
  refine wpAnyH_take (i := 1) (v := .int .i64 (k : Int)) op1 (by kernel_rfl) (by kernel_rfl) (by kernel_rfl) (fun _ _ _ h => h) (Or.inl ⟨by rfl, fun V' hS => ?_⟩) hHeld ?_
  · go_simp
  simp only [Act.put, List.setIfInBounds_toArray, List.set_cons_zero, List.set_cons_succ]
  refine wpAnyH_take (i := 2) (v := .pointer (some ⟨g, o + k, none⟩)) op2 (by kernel_rfl) (by kernel_rfl) (by kernel_rfl) (fun _ _ _ h => h) (Or.inl ⟨by rfl, fun V' hS => ?_⟩) hHeld ?_
  · go_simp
  simp only [Act.put, List.setIfInBounds_toArray, List.set_cons_zero, List.set_cons_succ]
  refine wpAnyH_take (i := 3) (v := .int .u8 (x : Int)) op3 (by kernel_rfl) (by kernel_rfl) (by kernel_rfl) (fun _ _ _ h => h) (Or.inl ⟨by rfl, fun V' hS => ?_⟩) hHeld ?_
  · have h1 := hS.1
    go_simp
  simp only [Act.put, List.setIfInBounds_toArray, List.set_cons_zero, List.set_cons_succ]
  refine wpAnyH_take (i := 4) (v := .int .i64 (x : Int)) op4 (by kernel_rfl) (by kernel_rfl) (by kernel_rfl) (fun _ _ _ h => h) (Or.inl ⟨by rfl, fun V' hS => ?_⟩) hHeld ?_
  · go_simp
  simp only [Act.put, List.setIfInBounds_toArray, List.set_cons_zero, List.set_cons_succ]
  refine wpAnyH_take (i := 5) (v := .int .i64 (X : Int)) op5 (by kernel_rfl) (by kernel_rfl) (by kernel_rfl) (fun _ _ _ h => h) (Or.inl ⟨by rfl, fun V' hS => ?_⟩) hHeld ?_
  · go_simp
  simp only [Act.put, List.setIfInBounds_toArray, List.set_cons_zero, List.set_cons_succ]
  refine wpAnyH_take (i := 6) (v := .slice (some ⟨g, o, none⟩) m cap) op6 (by kernel_rfl) (by kernel_rfl) (by kernel_rfl) (fun _ _ _ h => h) (Or.inl ⟨by rfl, fun V' hS => ?_⟩) hHeld ?_
  · go_simp
  simp only [Act.put, List.setIfInBounds_toArray, List.set_cons_zero, List.set_cons_succ]
  refine wpAnyH_take (i := 7) (v := .int .i64 (k : Int)) op7 (by kernel_rfl) (by kernel_rfl) (by kernel_rfl) (fun _ _ _ h => h) (Or.inl ⟨by rfl, fun V' hS => ?_⟩) hHeld ?_
  · go_simp
  simp only [Act.put, List.setIfInBounds_toArray, List.set_cons_zero, List.set_cons_succ]
  refine wpAnyH_take (i := 8) (v := .int .i64 (k1 : Int)) op8 (by kernel_rfl) (by kernel_rfl) (by kernel_rfl) (fun _ _ _ h => h) (Or.inl ⟨by rfl, fun V' hS => ?_⟩) hHeld ?_
  · go_simp
  simp only [Act.put, List.setIfInBounds_toArray, List.set_cons_zero, List.set_cons_succ]
  refine wpAnyH_take (i := 9) (v := .pointer (some ⟨g, o + k1, none⟩)) op9 (by kernel_rfl) (by kernel_rfl) (by kernel_rfl) (fun _ _ _ h => h) (Or.inl ⟨by rfl, fun V' hS => ?_⟩) hHeld ?_
  · go_simp
  simp only [Act.put, List.setIfInBounds_toArray, List.set_cons_zero, List.set_cons_succ]
  refine wpAnyH_take (i := 10) (v := .int .u8 (y : Int)) op10 (by kernel_rfl) (by kernel_rfl) (by kernel_rfl) (fun _ _ _ h => h) (Or.inl ⟨by rfl, fun V' hS => ?_⟩) hHeld ?_
  · have h2 := hS.2.1
    go_simp
  simp only [Act.put, List.setIfInBounds_toArray, List.set_cons_zero, List.set_cons_succ]
  refine wpAnyH_take (i := 11) (v := .int .i64 (y : Int)) op11 (by kernel_rfl) (by kernel_rfl) (by kernel_rfl) (fun _ _ _ h => h) (Or.inl ⟨by rfl, fun V' hS => ?_⟩) hHeld ?_
  · go_simp
  simp only [Act.put, List.setIfInBounds_toArray, List.set_cons_zero, List.set_cons_succ]
  refine wpAnyH_take (i := 12) (v := .int .i64 (Z : Int)) op12 (by kernel_rfl) (by kernel_rfl) (by kernel_rfl) (fun _ _ _ h => h) (Or.inl ⟨by rfl, fun V' hS => ?_⟩) hHeld ?_
  · go_simp
  simp only [Act.put, List.setIfInBounds_toArray, List.set_cons_zero, List.set_cons_succ]
  refine wpAnyH_take (i := 13) (v := .int .i64 (Z : Int)) op13 (by kernel_rfl) (by kernel_rfl) (by kernel_rfl) (fun _ _ _ h => h) (Or.inl ⟨by rfl, fun V' hS => ?_⟩) hHeld ?_
  · go_simp
  simp only [Act.put, List.setIfInBounds_toArray, List.set_cons_zero, List.set_cons_succ]
  refine wpAnyH_done (by kernel_rfl) ?_ _
  have B1 : Hid (Below w.heap.size w z0) := hHeld.2.2
  clear hHeld
  by_cases h : Z < 32768
  · have h1 : ¬ (32768 : Int) ≤ (Z : Int) := by omega
    have HF : Hid (dd = (Z : Int)) := by unfold Hid; rw [HD.out, if_pos h]
    clear HD h
    go_wp2
    go_ret
    exact ⟨by rw [HF.out]; rfl, B1.out⟩
  · have h1 : (32768 : Int) ≤ (Z : Int) := by omega
    have HF : Hid (dd = (Z : Int) - 65536) := by unfold Hid; rw [HD.out, if_neg h]
    clear HD h
    go_wp2
    go_ret
    exact ⟨by rw [HF.out]; rfl, B1.out⟩
end Go.Proofs.YtcjmbpchdeapiaaDoor
