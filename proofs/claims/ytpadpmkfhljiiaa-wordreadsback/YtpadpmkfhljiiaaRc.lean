/- The document's comparisons. -/
import Derived.Test.YtpadpmkfhljiiaaRb
import Derived.Test.YtpadpmkfhljiiaaXi
import Derived.Deep.RegionHeld3
namespace Go.Proofs.Ytpadpmkfhljiiaa
open Go.RowKit
theorem dig_all (X : Nat) (h : X < 256 ^ 32) : dsum (dig X) 32 = X := by rw [dig_sum X 32 (by omega), Nat.mod_eq_of_lt h]
theorem mod_nat {x : Int} {a0 a1 a2 a3 : Int} (h : IsW x a0 a1 a2 a3) : ∃ X : Nat, V a0 a1 a2 a3 = (X : Int) ∧ (X : Int) = x % MM ∧ X < 256 ^ 32 := by
  have r := h.range
  have e : (256 ^ 32 : Nat) = 115792089237316195423570985008687907853269984665640564039457584007913129639936 := by decide
  unfold MM at r
  exact ⟨(V a0 a1 a2 a3).toNat, by omega, by rw [← h.2]; omega, by rw [e]; omega⟩
set_option maxHeartbeats 1000000 in
set_option maxRecDepth 100000 in
theorem rcmp_any (x y : Int) (a0 a1 a2 a3 b0 b1 b2 b3 : Int) (w : World) (ha : IsW x a0 a1 a2 a3) (hb : IsW y b0 b1 b2 b3) :
    Calls Try.prog 29 #[.agg #[.int .u64 a0, .int .u64 a1, .int .u64 a2, .int .u64 a3], .agg #[.int .u64 b0, .int .u64 b1, .int .u64 b2, .int .u64 b3]] w fun e w' => e = .returned (.int .i64 (cmpv (x % MM) (y % MM))) ∧ Below w.heap.size w w' := by
  obtain ⟨X, hX, eX, lX⟩ := mod_nat ha
  obtain ⟨Y, hY, eY, lY⟩ := mod_nat hb
  have CM : Hid (∀ W v u, RowAt W v 32 (dig X) → RowAt W u 32 (dig Y) → Calls Try.prog 73 #[v, u] W fun r w' => r = .returned (.int .i64 (cmpv (x % MM) (y % MM))) ∧ w' = W) := fun W v u hv hu => by
    have h := compare_is W v u 32 32 (dig X) (dig Y) hv hu 32 (by omega)
    rw [dig_all X lX, dig_all Y lY, eX, eY] at h
    exact h
  generalize cmpv (x % MM) (y % MM) = r at CM ⊢
  have OA : Hid (∀ W, Calls Try.prog 65 #[.agg #[.int .u64 a0, .int .u64 a1, .int .u64 a2, .int .u64 a3]] W fun e w' => ∃ v, e = .returned v ∧ RowAt w' v 32 (dig X) ∧ Below W.heap.size W w') := fun W => of_is x a0 a1 a2 a3 W ha X hX
  have OB : Hid (∀ W, Calls Try.prog 65 #[.agg #[.int .u64 b0, .int .u64 b1, .int .u64 b2, .int .u64 b3]] W fun e w' => ∃ v, e = .returned v ∧ RowAt w' v 32 (dig Y) ∧ Below W.heap.size W w') := fun W => of_is y b0 b1 b2 b3 W hb Y hY
  have hA := (Box.new w 24 a0 a1 a2 a3).alloc (.cells #[.int .u64 b0, .int .u64 b1, .int .u64 b2, .int .u64 b3] 24)
  have hB := Box.new (w.alloc (.cells #[.int .u64 a0, .int .u64 a1, .int .u64 a2, .int .u64 a3] 24)) 24 b0 b1 b2 b3
  rw [World.size_alloc] at hB
  have hW : Below w.heap.size w ((w.alloc (.cells #[.int .u64 a0, .int .u64 a1, .int .u64 a2, .int .u64 a3] 24)).alloc (.cells #[.int .u64 b0, .int .u64 b1, .int .u64 b2, .int .u64 b3] 24)) := by repeat' (first | with_reducible exact Below.refl _ _ | with_reducible exact Below.refl _ _ | with_reducible refine Below.drew ?_ | with_reducible refine bdrewN ?_ _ | with_reducible refine Below.alloc ?_ ?_ _ | with_reducible refine Below.setCell ?_ ?_ _ | omega | (simp; done) | (simp; omega))
  have HAA : Hid _ := hA
  have HBB : Hid _ := hB
  have HWW : Hid _ := hW
  clear ha hb hX hY eX eY lX lY hA hB hW
  go_enter Try.func29, Try.ntmps29
  go_upto_region 1 with fail
  generalize (w.alloc (.cells #[.int .u64 a0, .int .u64 a1, .int .u64 a2, .int .u64 a3] 24)).alloc (.cells #[.int .u64 b0, .int .u64 b1, .int .u64 b2, .int .u64 b3] 24) = W0 at HAA HBB HWW ⊢
  refine wp_region_held_drew (S := fun w' => Box w' w.heap.size a0 a1 a2 a3 ∧ Box w' (w.heap.size + 1) b0 b1 b2 b3) (by kernel_rfl) ⟨Box.drew HAA.out, Box.drew HBB.out⟩ (fun hHeld => ?_)
  refine wpAnyH_take (i := 0) (v := .agg #[.int .u64 a0, .int .u64 a1, .int .u64 a2, .int .u64 a3]) op0 (by kernel_rfl) (by kernel_rfl) (by kernel_rfl) (fun _ _ _ h => h) (Or.inl ⟨by rfl, fun W hS => ?_⟩) hHeld ?_
  · obtain ⟨c0, c1, c2, c3, _⟩ := Box.facts hS.1
    go_simp
  simp only [Act.put, List.setIfInBounds_toArray, List.set_cons_zero, List.set_cons_succ]
  refine wpAnyH_take (i := 2) (v := .agg #[.int .u64 b0, .int .u64 b1, .int .u64 b2, .int .u64 b3]) op2 (by kernel_rfl) (by kernel_rfl) (by kernel_rfl) (fun _ _ _ h => h) (Or.inl ⟨by rfl, fun W hS => ?_⟩) hHeld ?_
  · obtain ⟨c0, c1, c2, c3, _⟩ := Box.facts hS.2
    go_simp
  simp only [Act.put, List.setIfInBounds_toArray, List.set_cons_zero, List.set_cons_succ]
  refine wpAnyH_ready (rs := [1]) (by kernel_rfl) (by simp) ?_
  refine AllReadyH.cons op1 (fun K hK => ?_) AllReadyH.nil
  · rw [if_pos (by rfl)]
    go_simp
    refine (OA.out _).mono ?_
    rintro e v1 ⟨v, rfl, hv, hB⟩
    have W1 : Hid (Below w.heap.size w v1) := Below.trans HWW.out ((below_undrew hB).mono HWW.out.size)
    have h1 : Box v1 w.heap.size a0 a1 a2 a3 ∧ Box v1 (w.heap.size + 1) b0 b1 b2 b3 := ⟨hHeld.1.below hB hHeld.1.lt, hHeld.2.below hB hHeld.2.lt⟩
    have HVV : Hid (RowAt v1 v 32 (dig X)) := hv
    clear hB hHeld hv
    (try go_wp2_with fail)
    refine hK.out _ _ h1 (fun _ => ?_)
    clear hK K
    refine wpAnyH_ready (rs := [3]) (by kernel_rfl) (by simp) ?_
    refine AllReadyH.cons op3 (fun K hK => ?_) AllReadyH.nil
    rw [if_pos (by rfl)]
    go_simp
    refine (OB.out _).mono ?_
    rintro e v2 ⟨u, rfl, hu, hB⟩
    have W2 : Hid (Below w.heap.size w v2) := Below.trans W1.out (hB.mono W1.out.size)
    have h2 : Box v2 w.heap.size a0 a1 a2 a3 ∧ Box v2 (w.heap.size + 1) b0 b1 b2 b3 := ⟨h1.1.below hB h1.1.lt, h1.2.below hB h1.2.lt⟩
    have C2 : Hid _ := CM.out v2 v u (HVV.out.below hB) hu
    clear hB h1 hu HVV
    (try go_wp2_with fail)
    refine hK.out _ _ h2 (fun _ => ?_)
    clear hK K
    refine wpAnyH_ready (rs := [4]) (by kernel_rfl) (by simp) ?_
    refine AllReadyH.cons op4 (fun K hK => ?_) AllReadyH.nil
    rw [if_pos (by rfl)]
    go_simp
    refine Calls.mono C2.out ?_
    rintro e v3 ⟨rfl, hw⟩
    have hw2 := hw.symm
    clear hw C2
    subst hw2
    (try go_wp2_with fail)
    refine hK.out _ _ h2 (fun _ => ?_)
    clear hK K
    refine wpAnyH_take (i := 5) (v := .int .i64 r) op5 (by kernel_rfl) (by kernel_rfl) (by kernel_rfl) (fun _ _ _ h => h) (Or.inl ⟨by rfl, fun W _ => ?_⟩) h2 ?_
    · go_simp
    simp only [Act.put, List.setIfInBounds_toArray, List.set_cons_zero, List.set_cons_succ]
    refine wpAnyH_done (by kernel_rfl) ?_ _
    go_wp2
    go_ret
    exact ⟨rfl, W2.out⟩
theorem rcmp_is {x y : Int} (a0 a1 a2 a3 b0 b1 b2 b3 : Int) (w : World) (ha : IsW x a0 a1 a2 a3) (hb : IsW y b0 b1 b2 b3) (r : Int) (h : cmpv (x % MM) (y % MM) = r) :
    Calls Try.prog 29 #[.agg #[.int .u64 a0, .int .u64 a1, .int .u64 a2, .int .u64 a3], .agg #[.int .u64 b0, .int .u64 b1, .int .u64 b2, .int .u64 b3]] w fun e w' => e = .returned (.int .i64 r) ∧ Below w.heap.size w w' := by
  rw [← h]; exact rcmp_any x y a0 a1 a2 a3 b0 b1 b2 b3 w ha hb
theorem cmpv_eq (x y : Int) : decide (cmpv x y = 0) = decide (x = y) := by
  unfold cmpv
  by_cases h1 : x < y
  · simp [h1]; omega
  · by_cases h2 : y < x
    · simp [h1, h2]; omega
    · simp [h1, h2]; omega
set_option maxHeartbeats 400000 in
theorem rlt_is {x y : Int} (a0 a1 a2 a3 b0 b1 b2 b3 : Int) (w : World) (ha : IsW x a0 a1 a2 a3) (hb : IsW y b0 b1 b2 b3) (r : Bool) (h : decide (x % MM < y % MM) = r) :
    Calls Try.prog 21 #[.agg #[.int .u64 a0, .int .u64 a1, .int .u64 a2, .int .u64 a3], .agg #[.int .u64 b0, .int .u64 b1, .int .u64 b2, .int .u64 b3]] w fun e w' => e = .returned (.bool r) ∧ Below w.heap.size w w' := by
  rw [← h, ← cmpv_lt]
  obtain ⟨c, ec⟩ : ∃ c, cmpv (x % MM) (y % MM) = c := ⟨_, rfl⟩
  rw [ec]
  clear h
  go_enter Try.func21, Try.ntmps21
  go_wp2_with (go_at_call 29; refine (rcmp_is _ _ _ _ _ _ _ _ _ ha hb c ec).mono ?_; rintro e v1 ⟨rfl, hB⟩)
  go_ret
  exact ⟨rfl, Below.trans (by repeat' (first | with_reducible exact Below.refl _ _ | with_reducible exact Below.refl _ _ | with_reducible refine Below.drew ?_ | with_reducible refine bdrewN ?_ _ | with_reducible refine Below.alloc ?_ ?_ _ | with_reducible refine Below.setCell ?_ ?_ _ | omega | (simp; done) | (simp; omega))) (hB.mono (by first | omega | (simp; done) | (simp; omega)))⟩
set_option maxHeartbeats 400000 in
theorem rgt_is {x y : Int} (a0 a1 a2 a3 b0 b1 b2 b3 : Int) (w : World) (ha : IsW x a0 a1 a2 a3) (hb : IsW y b0 b1 b2 b3) (r : Bool) (h : decide (y % MM < x % MM) = r) :
    Calls Try.prog 23 #[.agg #[.int .u64 a0, .int .u64 a1, .int .u64 a2, .int .u64 a3], .agg #[.int .u64 b0, .int .u64 b1, .int .u64 b2, .int .u64 b3]] w fun e w' => e = .returned (.bool r) ∧ Below w.heap.size w w' := by
  rw [← h, ← cmpv_gt]
  obtain ⟨c, ec⟩ : ∃ c, cmpv (x % MM) (y % MM) = c := ⟨_, rfl⟩
  rw [ec]
  clear h
  go_enter Try.func23, Try.ntmps23
  go_wp2_with (go_at_call 29; refine (rcmp_is _ _ _ _ _ _ _ _ _ ha hb c ec).mono ?_; rintro e v1 ⟨rfl, hB⟩)
  go_ret
  exact ⟨rfl, Below.trans (by repeat' (first | with_reducible exact Below.refl _ _ | with_reducible exact Below.refl _ _ | with_reducible refine Below.drew ?_ | with_reducible refine bdrewN ?_ _ | with_reducible refine Below.alloc ?_ ?_ _ | with_reducible refine Below.setCell ?_ ?_ _ | omega | (simp; done) | (simp; omega))) (hB.mono (by first | omega | (simp; done) | (simp; omega)))⟩
set_option maxHeartbeats 400000 in
theorem req_is {x y : Int} (a0 a1 a2 a3 b0 b1 b2 b3 : Int) (w : World) (ha : IsW x a0 a1 a2 a3) (hb : IsW y b0 b1 b2 b3) (r : Bool) (h : decide (x % MM = y % MM) = r) :
    Calls Try.prog 25 #[.agg #[.int .u64 a0, .int .u64 a1, .int .u64 a2, .int .u64 a3], .agg #[.int .u64 b0, .int .u64 b1, .int .u64 b2, .int .u64 b3]] w fun e w' => e = .returned (.bool r) ∧ Below w.heap.size w w' := by
  rw [← h, ← cmpv_eq]
  obtain ⟨c, ec⟩ : ∃ c, cmpv (x % MM) (y % MM) = c := ⟨_, rfl⟩
  rw [ec]
  clear h
  go_enter Try.func25, Try.ntmps25
  go_wp2_with (go_at_call 29; refine (rcmp_is _ _ _ _ _ _ _ _ _ ha hb c ec).mono ?_; rintro e v1 ⟨rfl, hB⟩)
  go_ret
  exact ⟨by first | rfl | (apply ret_bool; simp), Below.trans (by repeat' (first | with_reducible exact Below.refl _ _ | with_reducible exact Below.refl _ _ | with_reducible refine Below.drew ?_ | with_reducible refine bdrewN ?_ _ | with_reducible refine Below.alloc ?_ ?_ _ | with_reducible refine Below.setCell ?_ ?_ _ | omega | (simp; done) | (simp; omega))) (hB.mono (by first | omega | (simp; done) | (simp; omega)))⟩
theorem dsum_pos {d : Nat → Nat} (i : Nat) (hi : d i ≠ 0) : ∀ n, i < n → dsum d n ≠ 0
  | 0, h => absurd h (by omega)
  | n + 1, h => by
    rw [dsum]
    by_cases e : i = n
    · subst e
      have : 0 < d i * 256 ^ i := Nat.mul_pos (by omega) (Nat.pow_pos (by omega))
      omega
    · have := dsum_pos i hi n (by omega); omega
set_option maxHeartbeats 1000000 in
theorem none_is (W : World) (v : Value) (n : Nat) (d : Nat → Nat) (hv : RowAt W v n d) (r : Bool) (hr : decide (dsum d n = 0) = r) :
    Calls Try.prog 72 #[v] W fun e w' => e = .returned (.bool r) ∧ w' = W := by
  obtain ⟨hz, hd, hn, ad, cap, rfl, hc⟩ := hv
  have HC : Hid _ := hc
  have HR : Hid _ := hr
  have nI : (n : Int) ≤ 1073741824 := by omega
  clear hz hd hc hr
  go_enter Try.func72, Try.ntmps72
  go_wp2
  go_loop [3] (fun s => ∃ k : Nat, s = .int .i64 (k : Int) ∧ k ≤ n ∧ (∀ i, i < k → d i = 0)) (fun s => n - (intOf s).toNat)
  case atStart => exact ⟨0, rfl, by omega, fun i hi => absurd hi (by omega)⟩
  case round =>
    obtain ⟨k, rfl, hk, hz⟩ := hrel
    have HZ : Hid _ := hz
    clear hz
    by_cases hkn : k < n
    · have kI : (k : Int) < (n : Int) := by omega
      obtain ⟨g, o, rfl, hcc⟩ := HC.out (by omega)
      have c := hcc k hkn
      obtain ⟨y, ey⟩ : ∃ y, y = d k := ⟨_, rfl⟩
      rw [← ey] at c
      have EY : Hid _ := ey
      clear hcc ey
      by_cases hy : y = 0
      · subst hy
        go_wp2
        go_round
        case rel => exact ⟨k + 1, by go_num, by omega, fun i hi => by by_cases q : i = k; (rw [q, ← EY.out]); exact HZ.out i (by omega)⟩
        case measure => simp [intOf]; omega
      · have yI : ¬ ((y : Int) = 0) := by omega
        go_wp2
        go_ret
        refine ⟨ret_bool ?_, rfl⟩
        rw [← HR.out, decide_eq_false (dsum_pos k (by rw [← EY.out]; exact hy) n hkn)]
    · obtain rfl : k = n := by omega
      go_wp2
      go_ret
      refine ⟨ret_bool ?_, rfl⟩
      rw [← HR.out, decide_eq_true (dsum_zero k HZ.out)]
set_option maxHeartbeats 400000 in
theorem risZero_is {x : Int} (a0 a1 a2 a3 : Int) (w : World) (ha : IsW x a0 a1 a2 a3) (r : Bool) (h : decide (x % MM = 0) = r) :
    Calls Try.prog 27 #[.agg #[.int .u64 a0, .int .u64 a1, .int .u64 a2, .int .u64 a3]] w fun e w' => e = .returned (.bool r) ∧ Below w.heap.size w w' := by
  obtain ⟨X, hX, eX, lX⟩ := mod_nat ha
  have NO : Hid (∀ W v, RowAt W v 32 (dig X) → Calls Try.prog 72 #[v] W fun e w' => e = .returned (.bool r) ∧ w' = W) := fun W v hv => none_is W v 32 (dig X) hv r (by rw [dig_all X lX, ← h, ← eX]; simp)
  have OA : Hid (∀ W, Calls Try.prog 65 #[.agg #[.int .u64 a0, .int .u64 a1, .int .u64 a2, .int .u64 a3]] W fun e w' => ∃ v, e = .returned v ∧ RowAt w' v 32 (dig X) ∧ Below W.heap.size W w') := fun W => of_is x a0 a1 a2 a3 W ha X hX
  clear h ha hX eX lX
  go_enter Try.func27, Try.ntmps27
  go_wp2_with fail
  refine (OA.out _).mono ?_
  rintro e v1 ⟨v, rfl, hv, hB⟩
  have W1 : Hid (Below w.heap.size w v1) := Below.trans (by repeat' (first | with_reducible exact Below.refl _ _ | with_reducible exact Below.refl _ _ | with_reducible refine Below.drew ?_ | with_reducible refine bdrewN ?_ _ | with_reducible refine Below.alloc ?_ ?_ _ | with_reducible refine Below.setCell ?_ ?_ _ | omega | (simp; done) | (simp; omega))) (hB.mono (by first | omega | (simp; done) | (simp; omega)))
  have N1 : Hid _ := NO.out v1 v hv
  clear hB hv NO OA
  go_wp2_with fail
  refine Calls.mono N1.out ?_
  rintro e v2 ⟨rfl, hw⟩
  have hw2 := hw.symm
  clear hw N1
  subst hw2
  go_wp2
  go_ret
  exact ⟨rfl, W1.out⟩
end Go.Proofs.Ytpadpmkfhljiiaa
