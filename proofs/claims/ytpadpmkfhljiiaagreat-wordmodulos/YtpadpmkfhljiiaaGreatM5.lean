/- What the document's long division reckons, bit by bit: no Go text. -/
import Derived.Test.YtpadpmkfhljiiaaGreatM4
import Derived.Test.YtpadpmkfhljiiaaGreatM3
import Derived.Deep.RegionHeld3
namespace Go.Proofs.YtpadpmkfhljiiaaGreat
theorem half_step (A j : Nat) : A / 2 ^ j = 2 * (A / 2 ^ (j + 1)) + A / 2 ^ j % 2 := by
  rw [Nat.pow_succ, ← Nat.div_div_eq_div_mul]; omega
/-- j bits are still to be done -/
structure Rd (A B n j : Nat) (f : Nat → Nat) (R : Nat) : Prop where
  r : R = A / 2 ^ j % B
  q : dsum f n = A / 2 ^ j / B * 2 ^ j
  lt : ∀ k, f k < 256
  low : ∀ k, 8 * k + 8 ≤ j → f k = 0
  mid : j % 8 ≠ 0 → f (j / 8) + 2 ^ (j % 8) ≤ 256
theorem Rd.start {A B n : Nat} (h : A < 256 ^ n) : Rd A B n (8 * n) (fun _ => 0) 0 := by
  have e : A / 2 ^ (8 * n) = 0 := Nat.div_eq_of_lt (by rw [Nat.pow_mul]; exact h)
  refine ⟨by rw [e]; simp, by rw [e, dsum_zero n (fun _ _ => rfl)]; simp, fun _ => by simp, fun _ _ => rfl, fun h => absurd (by omega) h⟩
theorem Rd.fin {A B n : Nat} {f : Nat → Nat} {R : Nat} (h : Rd A B n 0 f R) : dsum f n = A / B ∧ R = A % B := by
  have h1 := h.r
  have h2 := h.q
  simp only [Nat.pow_zero, Nat.div_one, Nat.mul_one] at h1 h2
  exact ⟨h2, h1⟩
theorem Rd.rlt {A B n j : Nat} {f : Nat → Nat} {R : Nat} (h : Rd A B n j f R) (hB : 0 < B) : R < B := by rw [h.r]; exact Nat.mod_lt _ hB
theorem div_two {t B R b : Nat} (hB : 0 < B) (hR : R = t % B) (_hb : b ≤ 1) : (B ≤ 2 * R + b → (2 * t + b) / B = 2 * (t / B) + 1 ∧ (2 * t + b) % B = 2 * R + b - B) ∧ (2 * R + b < B → (2 * t + b) / B = 2 * (t / B) ∧ (2 * t + b) % B = 2 * R + b) := by
  have h1 := Nat.div_add_mod t B
  have h2 : R < B := by rw [hR]; exact Nat.mod_lt _ hB
  rw [← hR] at h1
  generalize t / B = q at h1 ⊢
  have h3 : 2 * t + b = B * (2 * q) + (2 * R + b) := by rw [← h1, Nat.mul_add, Nat.mul_left_comm]; omega
  refine ⟨fun hge => ?_, fun hlt => ?_⟩
  · have h4 : 2 * t + b = B * (2 * q + 1) + (2 * R + b - B) := by rw [h3, Nat.mul_add, Nat.mul_one]; omega
    refine ⟨?_, ?_⟩
    · rw [h4, Nat.mul_add_div hB, Nat.div_eq_of_lt (by omega), Nat.add_zero]
    · rw [h4, Nat.mul_add_mod, Nat.mod_eq_of_lt (by omega)]
  · refine ⟨?_, ?_⟩
    · rw [h3, Nat.mul_add_div hB, Nat.div_eq_of_lt hlt, Nat.add_zero]
    · rw [h3, Nat.mul_add_mod, Nat.mod_eq_of_lt hlt]
theorem pow_place (j : Nat) : 2 ^ (j % 8) * 256 ^ (j / 8) = 2 ^ j := by
  rw [show (256 : Nat) = 2 ^ 8 from rfl, ← Nat.pow_mul, ← Nat.pow_add]; congr 1; omega
theorem Rd.room {A B n j : Nat} {f : Nat → Nat} {R : Nat} (h : Rd A B n (j + 1) f R) : f (j / 8) + 2 ^ (j % 8) + 2 ^ (j % 8) ≤ 256 := by
  by_cases e : (j + 1) % 8 = 0
  · have h7 : j % 8 = 7 := by omega
    have h0 := h.low (j / 8) (by omega)
    rw [h0, h7]; decide
  · have h1 := h.mid e
    have e1 : (j + 1) / 8 = j / 8 := by omega
    have e2 : (j + 1) % 8 = j % 8 + 1 := by omega
    rw [e1, e2, Nat.pow_succ] at h1
    omega
theorem Rd.yes {A B n j : Nat} {f : Nat → Nat} {R b : Nat} (h : Rd A B n (j + 1) f R) (hB : 0 < B) (hj : j < 8 * n) (hb : b = A / 2 ^ j % 2) (hge : B ≤ 2 * R + b) : Rd A B n j (setD f (j / 8) (f (j / 8) + 2 ^ (j % 8))) (2 * R + b - B) := by
  have hs := half_step A j
  have hr := h.r
  have hq := h.q
  have hm := h.room
  have hp := Nat.two_pow_pos (j % 8)
  rw [← hb] at hs
  generalize A / 2 ^ (j + 1) = t at hs hr hq
  obtain ⟨e1, e2⟩ := (div_two hB hr (by omega)).1 hge
  refine ⟨by rw [hs, e2], ?_, fun k => setD_lt h.lt _ _ k (by omega), fun k hk => ?_, fun _ => ?_⟩
  · have h1 := dsum_set f (j / 8) (f (j / 8) + 2 ^ (j % 8)) n (by omega)
    have h2 := pow_place j
    rw [Nat.add_mul, h2, hq, Nat.pow_succ, Nat.mul_comm (2 ^ j) 2, ← Nat.mul_assoc] at h1
    rw [hs, e1, Nat.add_mul, Nat.one_mul, Nat.mul_comm 2 (t / B)]
    omega
  · rw [setD, if_neg (by omega)]; exact h.low k (by omega)
  · rw [setD, if_pos rfl]; exact hm
theorem Rd.no {A B n j : Nat} {f : Nat → Nat} {R b : Nat} (h : Rd A B n (j + 1) f R) (hB : 0 < B) (hb : b = A / 2 ^ j % 2) (hlt : 2 * R + b < B) : Rd A B n j f (2 * R + b) := by
  have hs := half_step A j
  have hr := h.r
  have hq := h.q
  have hm := h.room
  rw [← hb] at hs
  generalize A / 2 ^ (j + 1) = t at hs hr hq
  obtain ⟨e1, e2⟩ := (div_two hB hr (by omega)).2 hlt
  refine ⟨by rw [hs, e2], ?_, h.lt, fun k hk => h.low k (by omega), fun _ => Nat.le_trans (Nat.le_add_right _ _) hm⟩
  rw [hq, hs, e1, Nat.pow_succ, Nat.mul_comm (2 ^ j) 2, ← Nat.mul_assoc, Nat.mul_comm 2 (t / B)]
end Go.Proofs.YtpadpmkfhljiiaaGreat
/- The document's comparisons. -/
namespace Go.Proofs.YtpadpmkfhljiiaaGreat
open Go.RowKit
theorem dig_all (X : Nat) (h : X < 256 ^ 32) : dsum (dig X) 32 = X := by rw [dig_sum X 32 (by omega), Nat.mod_eq_of_lt h]
theorem mod_nat {x : Int} {a0 a1 a2 a3 : Int} (h : IsW x a0 a1 a2 a3) : ∃ X : Nat, V a0 a1 a2 a3 = (X : Int) ∧ (X : Int) = x % MM ∧ X < 256 ^ 32 := by
  have r := h.range
  have e : (256 ^ 32 : Nat) = 115792089237316195423570985008687907853269984665640564039457584007913129639936 := by decide
  unfold MM at r
  exact ⟨(V a0 a1 a2 a3).toNat, by omega, by rw [← h.2]; omega, by rw [e]; omega⟩
set_option maxHeartbeats 1000000 in
set_option maxRecDepth 100000 in
theorem rcmp_any (x y : Int) (a0 a1 a2 a3 b0 b1 b2 b3 : Int) (w : World) (ha : IsW x a0 a1 a2 a3) (hb : IsW y b0 b1 b2 b3) :
    Calls Tryz.prog 98 #[.agg #[.int .u64 a0, .int .u64 a1, .int .u64 a2, .int .u64 a3], .agg #[.int .u64 b0, .int .u64 b1, .int .u64 b2, .int .u64 b3]] w fun e w' => e = .returned (.int .i64 (cmpv (x % MM) (y % MM))) ∧ Below w.heap.size w w' := by
  obtain ⟨X, hX, eX, lX⟩ := mod_nat ha
  obtain ⟨Y, hY, eY, lY⟩ := mod_nat hb
  have CM : Hid (∀ W v u, RowAt W v 32 (dig X) → RowAt W u 32 (dig Y) → Calls Tryz.prog 118 #[v, u] W fun r w' => r = .returned (.int .i64 (cmpv (x % MM) (y % MM))) ∧ w' = W) := fun W v u hv hu => by
    have h := compare_is W v u 32 32 (dig X) (dig Y) hv hu 32 (by omega)
    rw [dig_all X lX, dig_all Y lY, eX, eY] at h
    exact h
  generalize cmpv (x % MM) (y % MM) = r at CM ⊢
  have OA : Hid (∀ W, Calls Tryz.prog 79 #[.agg #[.int .u64 a0, .int .u64 a1, .int .u64 a2, .int .u64 a3]] W fun e w' => ∃ v, e = .returned v ∧ RowAt w' v 32 (dig X) ∧ Below W.heap.size W w') := fun W => of_is x a0 a1 a2 a3 W ha X hX
  have OB : Hid (∀ W, Calls Tryz.prog 79 #[.agg #[.int .u64 b0, .int .u64 b1, .int .u64 b2, .int .u64 b3]] W fun e w' => ∃ v, e = .returned v ∧ RowAt w' v 32 (dig Y) ∧ Below W.heap.size W w') := fun W => of_is y b0 b1 b2 b3 W hb Y hY
  have hA := (Box.new w 24 a0 a1 a2 a3).alloc (.cells #[.int .u64 b0, .int .u64 b1, .int .u64 b2, .int .u64 b3] 24)
  have hB := Box.new (w.alloc (.cells #[.int .u64 a0, .int .u64 a1, .int .u64 a2, .int .u64 a3] 24)) 24 b0 b1 b2 b3
  rw [World.size_alloc] at hB
  have hW : Below w.heap.size w ((w.alloc (.cells #[.int .u64 a0, .int .u64 a1, .int .u64 a2, .int .u64 a3] 24)).alloc (.cells #[.int .u64 b0, .int .u64 b1, .int .u64 b2, .int .u64 b3] 24)) := by repeat' (first | with_reducible exact Below.refl _ _ | with_reducible exact Below.refl _ _ | with_reducible refine Below.drew ?_ | with_reducible refine bdrewN ?_ _ | with_reducible refine Below.alloc ?_ ?_ _ | with_reducible refine Below.setCell ?_ ?_ _ | omega | (simp; done) | (simp; omega))
  have HAA : Hid _ := hA
  have HBB : Hid _ := hB
  have HWW : Hid _ := hW
  clear ha hb hX hY eX eY lX lY hA hB hW
  go_enter Tryz.func98, Tryz.ntmps98
  go_upto_region 1 with fail
  generalize (w.alloc (.cells #[.int .u64 a0, .int .u64 a1, .int .u64 a2, .int .u64 a3] 24)).alloc (.cells #[.int .u64 b0, .int .u64 b1, .int .u64 b2, .int .u64 b3] 24) = W0 at HAA HBB HWW ⊢
  refine wp_region_held_drew (S := fun w' => Box w' w.heap.size a0 a1 a2 a3 ∧ Box w' (w.heap.size + 1) b0 b1 b2 b3) (by kernel_rfl) ⟨Box.drew HAA.out, Box.drew HBB.out⟩ (fun hHeld => ?_)
  refine wpAnyH_take (i := 0) (v := .agg #[.int .u64 a0, .int .u64 a1, .int .u64 a2, .int .u64 a3]) op0 (by kernel_rfl) (by kernel_rfl) (by kernel_rfl) (fun _ _ _ h => h) (Or.inl ⟨by rfl, fun W hS => ?_⟩) hHeld ?_
  · obtain ⟨c0, c1, c2, c3, _⟩ := Box.facts hS.1
    go_simp
  simp only [Act.put, List.setIfInBounds_toArray, List.set_cons_zero, List.set_cons_succ]
  refine wpAnyH_take (i := 2) (v := .agg #[.int .u64 b0, .int .u64 b1, .int .u64 b2, .int .u64 b3]) op2 (by kernel_rfl) (by kernel_rfl) (by kernel_rfl) (fun _ _ _ h => h) (Or.inl ⟨by rfl, fun W hS => ?_⟩) hHeld ?_
  · obtain ⟨c0, c1, c2, c3, _⟩ := Box.facts hS.2
    go_simp
  simp only [Act.put, List.setIfInBounds_toArray, List.set_cons_zero, List.set_cons_succ]
  refine wpAnyH_ready (rs := [1]) (by kernel_rfl) (by simp) ?_
  refine AllReadyH.cons op1 (fun K hK => ?_) AllReadyH.nil
  · rw [if_pos (by rfl)]
    go_simp
    refine (OA.out _).mono ?_
    rintro e v1 ⟨v, rfl, hv, hB⟩
    have W1 : Hid (Below w.heap.size w v1) := Below.trans HWW.out ((below_undrew hB).mono HWW.out.size)
    have h1 : Box v1 w.heap.size a0 a1 a2 a3 ∧ Box v1 (w.heap.size + 1) b0 b1 b2 b3 := ⟨hHeld.1.below hB hHeld.1.lt, hHeld.2.below hB hHeld.2.lt⟩
    have HVV : Hid (RowAt v1 v 32 (dig X)) := hv
    clear hB hHeld hv
    (try go_wp2_with fail)
    refine hK.out _ _ h1 (fun _ => ?_)
    clear hK K
    refine wpAnyH_ready (rs := [3]) (by kernel_rfl) (by simp) ?_
    refine AllReadyH.cons op3 (fun K hK => ?_) AllReadyH.nil
    rw [if_pos (by rfl)]
    go_simp
    refine (OB.out _).mono ?_
    rintro e v2 ⟨u, rfl, hu, hB⟩
    have W2 : Hid (Below w.heap.size w v2) := Below.trans W1.out (hB.mono W1.out.size)
    have h2 : Box v2 w.heap.size a0 a1 a2 a3 ∧ Box v2 (w.heap.size + 1) b0 b1 b2 b3 := ⟨h1.1.below hB h1.1.lt, h1.2.below hB h1.2.lt⟩
    have C2 : Hid _ := CM.out v2 v u (HVV.out.below hB) hu
    clear hB h1 hu HVV
    (try go_wp2_with fail)
    refine hK.out _ _ h2 (fun _ => ?_)
    clear hK K
    refine wpAnyH_ready (rs := [4]) (by kernel_rfl) (by simp) ?_
    refine AllReadyH.cons op4 (fun K hK => ?_) AllReadyH.nil
    rw [if_pos (by rfl)]
    go_simp
    refine Calls.mono C2.out ?_
    rintro e v3 ⟨rfl, hw⟩
    have hw2 := hw.symm
    clear hw C2
    subst hw2
    (try go_wp2_with fail)
    refine hK.out _ _ h2 (fun _ => ?_)
    clear hK K
    refine wpAnyH_take (i := 5) (v := .int .i64 r) op5 (by kernel_rfl) (by kernel_rfl) (by kernel_rfl) (fun _ _ _ h => h) (Or.inl ⟨by rfl, fun W _ => ?_⟩) h2 ?_
    · go_simp
    simp only [Act.put, List.setIfInBounds_toArray, List.set_cons_zero, List.set_cons_succ]
    refine wpAnyH_done (by kernel_rfl) ?_ _
    go_wp2
    go_ret
    exact ⟨rfl, W2.out⟩
theorem rcmp_is {x y : Int} (a0 a1 a2 a3 b0 b1 b2 b3 : Int) (w : World) (ha : IsW x a0 a1 a2 a3) (hb : IsW y b0 b1 b2 b3) (r : Int) (h : cmpv (x % MM) (y % MM) = r) :
    Calls Tryz.prog 98 #[.agg #[.int .u64 a0, .int .u64 a1, .int .u64 a2, .int .u64 a3], .agg #[.int .u64 b0, .int .u64 b1, .int .u64 b2, .int .u64 b3]] w fun e w' => e = .returned (.int .i64 r) ∧ Below w.heap.size w w' := by
  rw [← h]; exact rcmp_any x y a0 a1 a2 a3 b0 b1 b2 b3 w ha hb
theorem cmpv_eq (x y : Int) : decide (cmpv x y = 0) = decide (x = y) := by
  unfold cmpv
  by_cases h1 : x < y
  · simp [h1]; omega
  · by_cases h2 : y < x
    · simp [h1, h2]; omega
    · simp [h1, h2]; omega
set_option maxHeartbeats 400000 in
theorem rlt_is {x y : Int} (a0 a1 a2 a3 b0 b1 b2 b3 : Int) (w : World) (ha : IsW x a0 a1 a2 a3) (hb : IsW y b0 b1 b2 b3) (r : Bool) (h : decide (x % MM < y % MM) = r) :
    Calls Tryz.prog 166 #[.agg #[.int .u64 a0, .int .u64 a1, .int .u64 a2, .int .u64 a3], .agg #[.int .u64 b0, .int .u64 b1, .int .u64 b2, .int .u64 b3]] w fun e w' => e = .returned (.bool r) ∧ Below w.heap.size w w' := by
  rw [← h, ← cmpv_lt]
  obtain ⟨c, ec⟩ : ∃ c, cmpv (x % MM) (y % MM) = c := ⟨_, rfl⟩
  rw [ec]
  clear h
  go_enter Tryz.func166, Tryz.ntmps166
  go_wp2_with (go_at_call 98; refine (rcmp_is _ _ _ _ _ _ _ _ _ ha hb c ec).mono ?_; rintro e v1 ⟨rfl, hB⟩)
  go_ret
  exact ⟨rfl, Below.trans (by repeat' (first | with_reducible exact Below.refl _ _ | with_reducible exact Below.refl _ _ | with_reducible refine Below.drew ?_ | with_reducible refine bdrewN ?_ _ | with_reducible refine Below.alloc ?_ ?_ _ | with_reducible refine Below.setCell ?_ ?_ _ | omega | (simp; done) | (simp; omega))) (hB.mono (by first | omega | (simp; done) | (simp; omega)))⟩
set_option maxHeartbeats 400000 in
theorem rgt_is {x y : Int} (a0 a1 a2 a3 b0 b1 b2 b3 : Int) (w : World) (ha : IsW x a0 a1 a2 a3) (hb : IsW y b0 b1 b2 b3) (r : Bool) (h : decide (y % MM < x % MM) = r) :
    Calls Tryz.prog 167 #[.agg #[.int .u64 a0, .int .u64 a1, .int .u64 a2, .int .u64 a3], .agg #[.int .u64 b0, .int .u64 b1, .int .u64 b2, .int .u64 b3]] w fun e w' => e = .returned (.bool r) ∧ Below w.heap.size w w' := by
  rw [← h, ← cmpv_gt]
  obtain ⟨c, ec⟩ : ∃ c, cmpv (x % MM) (y % MM) = c := ⟨_, rfl⟩
  rw [ec]
  clear h
  go_enter Tryz.func167, Tryz.ntmps167
  go_wp2_with (go_at_call 98; refine (rcmp_is _ _ _ _ _ _ _ _ _ ha hb c ec).mono ?_; rintro e v1 ⟨rfl, hB⟩)
  go_ret
  exact ⟨rfl, Below.trans (by repeat' (first | with_reducible exact Below.refl _ _ | with_reducible exact Below.refl _ _ | with_reducible refine Below.drew ?_ | with_reducible refine bdrewN ?_ _ | with_reducible refine Below.alloc ?_ ?_ _ | with_reducible refine Below.setCell ?_ ?_ _ | omega | (simp; done) | (simp; omega))) (hB.mono (by first | omega | (simp; done) | (simp; omega)))⟩
set_option maxHeartbeats 400000 in
theorem req_is {x y : Int} (a0 a1 a2 a3 b0 b1 b2 b3 : Int) (w : World) (ha : IsW x a0 a1 a2 a3) (hb : IsW y b0 b1 b2 b3) (r : Bool) (h : decide (x % MM = y % MM) = r) :
    Calls Tryz.prog 168 #[.agg #[.int .u64 a0, .int .u64 a1, .int .u64 a2, .int .u64 a3], .agg #[.int .u64 b0, .int .u64 b1, .int .u64 b2, .int .u64 b3]] w fun e w' => e = .returned (.bool r) ∧ Below w.heap.size w w' := by
  rw [← h, ← cmpv_eq]
  obtain ⟨c, ec⟩ : ∃ c, cmpv (x % MM) (y % MM) = c := ⟨_, rfl⟩
  rw [ec]
  clear h
  go_enter Tryz.func168, Tryz.ntmps168
  go_wp2_with (go_at_call 98; refine (rcmp_is _ _ _ _ _ _ _ _ _ ha hb c ec).mono ?_; rintro e v1 ⟨rfl, hB⟩)
  go_ret
  exact ⟨by first | rfl | (apply ret_bool; simp), Below.trans (by repeat' (first | with_reducible exact Below.refl _ _ | with_reducible exact Below.refl _ _ | with_reducible refine Below.drew ?_ | with_reducible refine bdrewN ?_ _ | with_reducible refine Below.alloc ?_ ?_ _ | with_reducible refine Below.setCell ?_ ?_ _ | omega | (simp; done) | (simp; omega))) (hB.mono (by first | omega | (simp; done) | (simp; omega)))⟩
theorem dsum_pos {d : Nat → Nat} (i : Nat) (hi : d i ≠ 0) : ∀ n, i < n → dsum d n ≠ 0
  | 0, h => absurd h (by omega)
  | n + 1, h => by
    rw [dsum]
    by_cases e : i = n
    · subst e
      have : 0 < d i * 256 ^ i := Nat.mul_pos (by omega) (Nat.pow_pos (by omega))
      omega
    · have := dsum_pos i hi n (by omega); omega
set_option maxHeartbeats 1000000 in
theorem none_is (W : World) (v : Value) (n : Nat) (d : Nat → Nat) (hv : RowAt W v n d) (r : Bool) (hr : decide (dsum d n = 0) = r) :
    Calls Tryz.prog 88 #[v] W fun e w' => e = .returned (.bool r) ∧ w' = W := by
  obtain ⟨hz, hd, hn, ad, cap, rfl, hc⟩ := hv
  have HC : Hid _ := hc
  have HR : Hid _ := hr
  have nI : (n : Int) ≤ 1073741824 := by omega
  clear hz hd hc hr
  go_enter Tryz.func88, Tryz.ntmps88
  go_wp2
  go_loop [3] (fun s => ∃ k : Nat, s = .int .i64 (k : Int) ∧ k ≤ n ∧ (∀ i, i < k → d i = 0)) (fun s => n - (intOf s).toNat)
  case atStart => exact ⟨0, rfl, by omega, fun i hi => absurd hi (by omega)⟩
  case round =>
    obtain ⟨k, rfl, hk, hz⟩ := hrel
    have HZ : Hid _ := hz
    clear hz
    by_cases hkn : k < n
    · have kI : (k : Int) < (n : Int) := by omega
      obtain ⟨g, o, rfl, hcc⟩ := HC.out (by omega)
      have c := hcc k hkn
      obtain ⟨y, ey⟩ : ∃ y, y = d k := ⟨_, rfl⟩
      rw [← ey] at c
      have EY : Hid _ := ey
      clear hcc ey
      by_cases hy : y = 0
      · subst hy
        go_wp2
        go_round
        case rel => exact ⟨k + 1, by go_num, by omega, fun i hi => by by_cases q : i = k; (rw [q, ← EY.out]); exact HZ.out i (by omega)⟩
        case measure => simp [intOf]; omega
      · have yI : ¬ ((y : Int) = 0) := by omega
        go_wp2
        go_ret
        refine ⟨ret_bool ?_, rfl⟩
        rw [← HR.out, decide_eq_false (dsum_pos k (by rw [← EY.out]; exact hy) n hkn)]
    · obtain rfl : k = n := by omega
      go_wp2
      go_ret
      refine ⟨ret_bool ?_, rfl⟩
      rw [← HR.out, decide_eq_true (dsum_zero k HZ.out)]
set_option maxHeartbeats 400000 in
theorem risZero_is {x : Int} (a0 a1 a2 a3 : Int) (w : World) (ha : IsW x a0 a1 a2 a3) (r : Bool) (h : decide (x % MM = 0) = r) :
    Calls Tryz.prog 169 #[.agg #[.int .u64 a0, .int .u64 a1, .int .u64 a2, .int .u64 a3]] w fun e w' => e = .returned (.bool r) ∧ Below w.heap.size w w' := by
  obtain ⟨X, hX, eX, lX⟩ := mod_nat ha
  have NO : Hid (∀ W v, RowAt W v 32 (dig X) → Calls Tryz.prog 88 #[v] W fun e w' => e = .returned (.bool r) ∧ w' = W) := fun W v hv => none_is W v 32 (dig X) hv r (by rw [dig_all X lX, ← h, ← eX]; simp)
  have OA : Hid (∀ W, Calls Tryz.prog 79 #[.agg #[.int .u64 a0, .int .u64 a1, .int .u64 a2, .int .u64 a3]] W fun e w' => ∃ v, e = .returned v ∧ RowAt w' v 32 (dig X) ∧ Below W.heap.size W w') := fun W => of_is x a0 a1 a2 a3 W ha X hX
  clear h ha hX eX lX
  go_enter Tryz.func169, Tryz.ntmps169
  go_wp2_with fail
  refine (OA.out _).mono ?_
  rintro e v1 ⟨v, rfl, hv, hB⟩
  have W1 : Hid (Below w.heap.size w v1) := Below.trans (by repeat' (first | with_reducible exact Below.refl _ _ | with_reducible exact Below.refl _ _ | with_reducible refine Below.drew ?_ | with_reducible refine bdrewN ?_ _ | with_reducible refine Below.alloc ?_ ?_ _ | with_reducible refine Below.setCell ?_ ?_ _ | omega | (simp; done) | (simp; omega))) (hB.mono (by first | omega | (simp; done) | (simp; omega)))
  have N1 : Hid _ := NO.out v1 v hv
  clear hB hv NO OA
  go_wp2_with fail
  refine Calls.mono N1.out ?_
  rintro e v2 ⟨rfl, hw⟩
  have hw2 := hw.symm
  clear hw N1
  subst hw2
  go_wp2
  go_ret
  exact ⟨rfl, W1.out⟩
end Go.Proofs.YtpadpmkfhljiiaaGreat
/- What the document's division asks of its rows: bits, cuts, comparisons. -/
namespace Go.Proofs.YtpadpmkfhljiiaaGreat
open Go.RowKit
theorem RowI.below {W W' : World} {B g N : Nat} {f : Nat → Nat} (h : RowI W g N f) (k : Below B W W') (hb : g < B) : RowI W' g N f := fun j hj =>
  ⟨(k.cell (p := ⟨g, j, none⟩) hb).trans (h j hj).1, (k.frozen (p := ⟨g, j, none⟩) hb).trans (h j hj).2⟩
theorem dsum_at {d : Nat → Nat} (hd : ∀ i, d i < 256) (n k : Nat) (hk : k < n) : ∃ rest, dsum d n / 256 ^ k = d k + 256 * rest := by
  obtain ⟨t, rfl⟩ : ∃ t, n = k + (t + 1) := ⟨n - k - 1, by omega⟩
  rw [dsum_split, dsum_front]
  have h1 := dsum_lt hd k
  rw [Nat.add_comm (dsum d k), Nat.mul_add_div (Nat.pow_pos (by decide)), Nat.div_eq_of_lt h1]
  exact ⟨_, rfl⟩
theorem dsum_bit {d : Nat → Nat} (hd : ∀ i, d i < 256) (n j : Nat) (hj : j < 8 * n) : dsum d n / 2 ^ j % 2 = d (j / 8) / 2 ^ (j % 8) % 2 := by
  obtain ⟨rest, h⟩ := dsum_at hd n (j / 8) (by omega)
  rw [← pow_place j, Nat.mul_comm, ← Nat.div_div_eq_div_mul, h]
  have h8 : j % 8 < 8 := by omega
  generalize d (j / 8) = x
  generalize j % 8 = t at h8
  obtain rfl | rfl | rfl | rfl | rfl | rfl | rfl | rfl : t = 0 ∨ t = 1 ∨ t = 2 ∨ t = 3 ∨ t = 4 ∨ t = 5 ∨ t = 6 ∨ t = 7 := by omega
  all_goals (simp only [Nat.pow_zero, Nat.reducePow]; omega)
theorem dsum_cut {d : Nat → Nat} (hd : ∀ i, d i < 256) (n c : Nat) (h : dsum d n < 256 ^ c) : dsum (cutD d c) (min c n) = dsum d n := by
  by_cases hc : c ≤ n
  · rw [Nat.min_eq_left hc, ← dsum_more (fun i hi => by rw [cutD, if_neg (by omega)]) n hc, cutD_sum hd, Nat.mod_eq_of_lt h]
  · rw [Nat.min_eq_right (by omega), cutD_sum hd, Nat.mod_eq_of_lt h]
theorem RowAt.more {W : World} {v : Value} {n : Nat} {d : Nat → Nat} (h : RowAt W v n d) (m : Nat) (hm : n ≤ m) : dsum d m = dsum d n := dsum_more (fun i hi => h.1 i hi) m hm
theorem one_sum (K : Nat) (h : 1 ≤ K) : dsum oneD K = 1 := by
  rw [dsum_more (n := 1) (fun i hi => by rw [oneD, if_neg (by omega)]) K h]; simp [dsum, oneD]
/-- a row of no digits -/
theorem RowAt.nil (W : World) : RowAt W (.slice none 0 0) 0 (fun _ => 0) := ⟨fun _ _ => rfl, fun _ => by simp, by omega, none, 0, rfl, fun h => absurd rfl h⟩
/-- the rows while it is divided -/
structure Rw (w : World) (v u : Value) (n m : Nat) (d e : Nat → Nat) (gq : Nat) (f : Nat → Nat) (x : Value) (L : Nat) (g : Nat → Nat) (W : World) : Prop where
  bel : Below w.heap.size w W
  av : RowAt W v n d
  bv : RowAt W u m e
  rv : RowAt W x L g
  qv : RowI W gq n f
  ql : gq < W.heap.size
theorem Rw.past {w W W' : World} {v u x y : Value} {n m gq L L' : Nat} {d e f g g' : Nat → Nat} (h : Rw w v u n m d e gq f x L g W) (k : Below W.heap.size W W') (hy : RowAt W' y L' g') : Rw w v u n m d e gq f y L' g' W' :=
  ⟨h.bel.trans (k.mono h.bel.size), h.av.below k, h.bv.below k, hy, h.qv.below k h.ql, Nat.lt_of_lt_of_le h.ql k.size⟩
theorem RowAt.apart {W : World} {x : Value} {L : Nat} {g : Nat → Nat} (h : RowAt W x L g) (B gq o : Nat) (y : Value) (ha : Above x B) (hq : gq < B) : RowAt (W.setCell ⟨gq, o, none⟩ y) x L g := by
  obtain ⟨h1, h2, h3, ad, cap, rfl, hc⟩ := h
  refine ⟨h1, h2, h3, ad, cap, rfl, fun hn => ?_⟩
  obtain ⟨b, p, rfl, hcl⟩ := hc hn
  have hb := ha b p _ _ rfl
  refine ⟨b, p, rfl, fun i hi => ?_⟩
  rw [World.cell?_setCell_other _ _ _ _ (by intro e'; injection e' with e1 _ _; omega)]
  exact hcl i hi
theorem Rw.put {w W : World} {v u x : Value} {n m gq L : Nat} {d e f g : Nat → Nat} (h : Rw w v u n m d e gq f x L g W) (hv : RowAt w v n d) (hu : RowAt w u m e) (o s B : Nat) (hg : w.heap.size = gq) (ha : Above x B) (hq : gq < B) : Rw w v u n m d e gq (setD f o s) x L g (W.setCell ⟨gq, o, none⟩ (.int .i64 (s : Int))) := by
  have hb : Below w.heap.size w (W.setCell ⟨gq, o, none⟩ (.int .i64 (s : Int))) := h.bel.setCell (by simp; omega) _
  exact ⟨hb, hv.below hb, hu.below hb, h.rv.apart B gq o _ ha hq, h.qv.set o s, by simpa using h.ql⟩
end Go.Proofs.YtpadpmkfhljiiaaGreat
/- The document's division of rows. -/
namespace Go.Proofs.YtpadpmkfhljiiaaGreat
open Go.RowKit
/-- what the document's 'divide' gives -/
def RDivRes (A B n m : Nat) (w : World) (r : Ending) (w' : World) : Prop := ∃ (q x : Value) (f g : Nat → Nat) (L : Nat), r = .returned (.tuple #[q, x]) ∧ RowAt w' q n f ∧ dsum f n = A / B ∧ RowAt w' x L g ∧ L ≤ m + 2 ∧ dsum g L = A % B ∧ Below w.heap.size w w'
set_option maxHeartbeats 4000000 in
set_option maxRecDepth 100000 in
theorem rdivide_is (w : World) (v u : Value) (n m : Nat) (d e : Nat → Nat) (hv : RowAt w v n d) (hu : RowAt w u m e) (hn : n ≤ 100) (hm : m ≤ 100) (A B : Nat) (hA : dsum d n = A) (hB : dsum e m = B) (hB0 : 0 < B) :
    Calls Tryz.prog 89 #[v, u] w (RDivRes A B n m w) := by
  have HV : Hid (RowAt w v n d) := hv
  have HU : Hid (RowAt w u m e) := hu
  have HA : Hid (dsum d n = A) := hA
  have HBB : Hid (dsum e m = B ∧ 0 < B) := ⟨hB, hB0⟩
  have HD : Hid (∀ i, d i < 256) := hv.2.1
  have HE : Hid (∀ i, e i < 256) := hu.2.1
  obtain ⟨_, _, _, ad, cap, rfl, _⟩ := hv
  obtain ⟨_, _, _, bd, cap', rfl, _⟩ := hu
  obtain ⟨i0, hi, hz0, hz1, hz2⟩ := info_parts Tryz.infoI
  have nI : (n : Int) ≤ 100 := by omega
  have mI : (m : Int) ≤ 100 := by omega
  obtain ⟨m2, em2⟩ : ∃ m2, m2 = m + 2 := ⟨_, rfl⟩
  have m2I : (m : Int) + 2 = (m2 : Int) := by omega
  have m2w : IntKind.i64.wrap (m2 : Int) = (m2 : Int) := by rw [IntKind.wrap_i64]; omega
  have EM2 : Hid (m2 = m + 2) := em2
  clear hA hB hB0 em2
  go_enter Tryz.func89, Tryz.ntmps89
  go_upto_region 2 with (at_make; refine wpList_make_full _ rfl _ _ 61 rfl w.heap.size 3 i0 (.int .i64 0) 1 Tryz.underlying61 hi hz0 hz1 .i64 .i64 _ _ n rfl rfl rfl rfl (by rw [hz2]; omega) (by unfold maxLen; omega) (Nat.le_refl _) ?_; intro v1 hown hgrow; (have R1 : Hid (RowI v1 w.heap.size n (fun _ => 0)) := RowI.made hown); (have B1 : Hid (Below w.heap.size w v1) := Below.grown (Below.refl _ _) hgrow (Nat.le_refl _) (fun k h => by cases h)); (have L1 : Hid (w.heap.size < v1.heap.size) := (hown.lt _ rfl).2); clear hown hgrow)
  have W1 : Hid (Rw w (.slice ad n cap) (.slice bd m cap') n m d e w.heap.size (fun _ => 0) (.slice none 0 0) 0 (fun _ => 0) v1) := ⟨B1.out, HV.out.below B1.out, HU.out.below B1.out, RowAt.nil v1, R1.out, L1.out⟩
  generalize hgq : w.heap.size = gq at W1 R1 L1 ⊢
  have GQ : Hid (w.heap.size = gq) := hgq
  rw [← hgq] at W1
  clear hgq R1 B1 L1
  go_wp2
  go_loopw [7, 8] (fun s7 s8 wx => ∃ (j : Nat) (f g : Nat → Nat) (L : Nat), j ≤ 8 * n ∧ s8 = .int .i64 ((j : Int) - 1) ∧ L ≤ m + 2 ∧ Rd A B n j f (dsum g L) ∧ Rw w (.slice ad n cap) (.slice bd m cap') n m d e gq f s7 L g wx) (fun _ s8 _ => (intOf s8 + 1).toNat)
  case atStart => exact ⟨8 * n, fun _ => 0, fun _ => 0, 0, by omega, by first | rfl | go_num | (congr 1; omega), by omega, Rd.start (by rw [← HA.out]; exact dsum_lt HD.out n), by have h := W1.out; rw [GQ.out] at h; exact h⟩
  case round =>
    obtain ⟨j, f, g, L, hj, rfl, hL, hR, hW⟩ := hrel
    clear W1
    have RD : Hid _ := hR
    have WW : Hid _ := hW
    clear hR hW
    rcases j with _ | j
    · go_wp2
      go_ret2
      obtain ⟨h1, h2⟩ := RD.out.fin
      exact ⟨_, _, _, g, L, rfl, RowAt.ofRowI WW.out.qv RD.out.lt (by omega), by rw [cutD_same]; exact h1, WW.out.rv, hL, h2, WW.out.bel⟩
    · rw [show ((j + 1 : Nat) : Int) - 1 = (j : Int) by omega]
      have jI : (0 : Int) ≤ (j : Int) := by omega
      have jL : (j : Int) ≤ 800 := by omega
      have PL : Hid _ := plus_is wr _ _ L L g g WW.out.rv WW.out.rv (by omega) (by omega) L (by omega)
      go_upto_region 7 with (go_at_call 78; refine Calls.mono PL.out ?_; rintro e1 w1 ⟨x1, f1, rfl, h1, hs1, hB1⟩; (have W1 : Hid (Rw w (.slice ad n cap) (.slice bd m cap') n m d e gq f x1 (L + 1) f1 w1) := WW.out.past hB1 h1); (have S1 : Hid (dsum f1 (L + 1) = 2 * dsum g L) := (by unfold Hid; omega)); clear h1 hs1 hB1)
      clear PL WW
      obtain ⟨b, eb⟩ : ∃ b, b = d (j / 8) / 2 ^ (j % 8) % 2 := ⟨_, rfl⟩
      have b1 : b ≤ 1 := by omega
      have BT : Hid (Calls Tryz.prog 132 #[.slice ad n cap, .int .i64 (j : Int)] w1 fun e w' => e = .returned (.int .i64 (b : Int)) ∧ w' = w1) := by rw [eb]; exact bit_is w1 _ n d W1.out.av j (by omega)
      have EB : Hid (b = A / 2 ^ j % 2) := by unfold Hid; rw [eb, ← HA.out, dsum_bit HD.out n j (by omega)]
      clear eb
      rcases Nat.lt_or_ge b 1 with hb0 | hb0
      · obtain rfl : b = 0 := by omega
        have S2 : Hid (dsum f1 (L + 1) = 2 * dsum g L + 0) := S1.out
        go_upto_region 9 with (go_at_call 132; refine Calls.mono BT.out ?_; rintro e1 w' ⟨rfl, hw⟩; (have hw2 := hw.symm); clear hw; subst hw2)
        clear BT S1
        have CU : Hid _ := cut_is w1 _ (L + 1) f1 W1.out.rv m2 (by omega)
        go_upto_region 10 with (go_at_call 133; refine Calls.mono CU.out ?_; rintro e1 w3 ⟨x3, rfl, h3, hB3⟩; (have W3 : Hid (Rw w (.slice ad n cap) (.slice bd m cap') n m d e gq f x3 (min m2 (L + 1)) (cutD f1 m2) w3) := W1.out.past hB3 h3); clear h3 hB3)
        have S3 : Hid (dsum (cutD f1 m2) (min m2 (L + 1)) = 2 * dsum g L + 0) := by
          have h1 := RD.out.rlt HBB.out.2
          have h2 := dsum_lt HE.out m
          have h4 : 256 ^ m2 = 65536 * 256 ^ m := by rw [EM2.out, Nat.pow_add]; omega
          unfold Hid
          rw [dsum_cut W1.out.rv.2.1 (L + 1) m2 (by rw [S2.out]; have := HBB.out.1; omega)]
          exact S2.out
        obtain ⟨L3, eL3⟩ : ∃ L3, min m2 (L + 1) = L3 := ⟨_, rfl⟩
        have hL3 : L3 ≤ m2 := by omega
        rw [eL3] at W3 S3
        generalize cutD f1 m2 = g3 at W3 S3
        clear CU W1 S2 eL3
        obtain ⟨R', eR'⟩ : ∃ R', R' = 2 * dsum g L + 0 := ⟨_, rfl⟩
        have ER : Hid (R' = 2 * dsum g L + 0) := eR'
        rw [← eR'] at S3
        clear eR'
        have CM : Hid (Calls Tryz.prog 118 #[x3, .slice bd m cap'] w3 fun r w' => r = .returned (.int .i64 (cmpv (R' : Int) (B : Int))) ∧ w' = w3) := by
          have h := compare_is w3 _ _ L3 m g3 e W3.out.rv W3.out.bv m2 (by have := EM2.out; omega)
          rw [W3.out.rv.more m2 hL3, S3.out, W3.out.bv.more m2 (by have := EM2.out; omega), HBB.out.1] at h
          exact h
        by_cases hge : B ≤ R'
        · obtain ⟨cv, ecv, hcv⟩ : ∃ cv : Int, cmpv (R' : Int) (B : Int) = cv ∧ 0 ≤ cv := ⟨_, rfl, by unfold cmpv; rw [if_neg (by omega)]; split <;> omega⟩
          rw [ecv] at CM
          clear ecv
          obtain ⟨K, eK⟩ : ∃ K, K = max L3 m := ⟨_, rfl⟩
          have MI : Hid _ := minus_is w3 _ _ L3 m g3 e W3.out.rv W3.out.bv (by omega) (by omega) K eK (by rw [W3.out.rv.more K (by omega), W3.out.bv.more K (by omega), S3.out, HBB.out.1]; exact hge)
          have EK : Hid (dsum g3 K = R' ∧ dsum e K = B ∧ K ≤ m + 2) := ⟨by rw [W3.out.rv.more K (by omega), S3.out], by rw [W3.out.bv.more K (by omega), HBB.out.1], by have := EM2.out; omega⟩
          clear eK
          go_upto_region 12 with (first
            | (go_at_call 118; refine Calls.mono CM.out ?_; rintro e1 w' ⟨rfl, hw⟩; (have hw2 := hw.symm); clear hw; subst hw2)
            | (go_at_call 81; refine Calls.mono MI.out ?_; rintro e1 w4 ⟨x4, f4, rfl, h4, hs4, hab, hB4⟩; (have AB : Hid (Above x4 w3.heap.size ∧ gq < w3.heap.size) := ⟨hab, W3.out.ql⟩); (have W4 : Hid (Rw w (.slice ad n cap) (.slice bd m cap') n m d e gq f x4 K f4 w4) := W3.out.past hB4 h4); (have S4 : Hid (dsum f4 K = R' - B) := (by have := EK.out; unfold Hid; omega)); clear h4 hs4 hB4 hab))
          clear CM MI W3 S3 hcv
          obtain ⟨t, et⟩ : ∃ t : Nat, t = j % 8 := ⟨_, rfl⟩
          obtain ⟨o, eo⟩ : ∃ o : Nat, o = j / 8 := ⟨_, rfl⟩
          have t1 : Int.tmod (j : Int) 8 = (t : Int) := by rw [Int.tmod_eq_emod_of_nonneg (by omega)]; omega
          have t2 : Int.tdiv (j : Int) 8 = (o : Int) := by rw [Int.tdiv_eq_ediv_of_nonneg (by omega)]; omega
          have tw : IntKind.i64.wrap (t : Int) = (t : Int) := by rw [IntKind.wrap_i64]; omega
          have ow : IntKind.i64.wrap (o : Int) = (o : Int) := by rw [IntKind.wrap_i64]; omega
          have t8 : t < 8 := by omega
          have oN : o < n := by omega
          have oI : (o : Int) < (n : Int) := by omega
          have HT : Hid (t = j % 8 ∧ o = j / 8) := ⟨et, eo⟩
          clear et eo
          go_wp2
          go_loopw [9, 10] (fun s9 s10 wx => ∃ k p : Nat, k ≤ t ∧ p = 2 ^ k ∧ s9 = .int .i64 (p : Int) ∧ s10 = .int .i64 (k : Int) ∧ wx = w4) (fun _ s10 _ => t - (intOf s10).toNat)
          case atStart => exact ⟨0, 1, by omega, rfl, rfl, rfl, rfl⟩
          case round =>
            obtain ⟨k, p, hk, hp, rfl, rfl, hw⟩ := hrel
            have hw2 := hw.symm
            clear hw
            subst hw2
            have p256 : p ≤ 128 := by rw [hp]; exact Nat.le_trans (Nat.pow_le_pow_right (by decide) (show k ≤ 7 by omega)) (by decide)
            have pI : (p : Int) ≤ 128 := by omega
            have HP : Hid (p = 2 ^ k) := hp
            clear hp
            by_cases hkt : k < t
            · have kI : (k : Int) < (t : Int) := by omega
              obtain ⟨p', ep'⟩ : ∃ p' : Nat, p' = 2 * p := ⟨_, rfl⟩
              have q1 : (2 : Int) * (p : Int) = (p' : Int) := by omega
              have q2 : IntKind.i64.wrap (p' : Int) = (p' : Int) := by rw [IntKind.wrap_i64]; omega
              have EP : Hid (p' = 2 ^ (k + 1)) := by unfold Hid; rw [ep', HP.out, Nat.pow_succ]; omega
              clear ep'
              go_wp2
              go_roundw
              case rel => exact ⟨k + 1, p', by omega, EP.out, rfl, by go_num, trivial⟩
              case measure => simp [intOf]; omega
            · obtain rfl : k = t := by omega
              have cq := (W4.out.qv o oN).1
              have fq := (W4.out.qv o oN).2
              have hf := RD.out.lt o
              obtain ⟨y, ey⟩ : ∃ y, f o = y := ⟨_, rfl⟩
              rw [ey] at cq hf
              obtain ⟨s, es⟩ : ∃ s : Nat, s = y + p := ⟨_, rfl⟩
              have s1 : (y : Int) + (p : Int) = (s : Int) := by omega
              have s2 : IntKind.i64.wrap (s : Int) = (s : Int) := by rw [IntKind.wrap_i64]; omega
              have RN : Hid (Rd A B n j (setD f o s) (dsum f4 K)) := by
                obtain ⟨e1, e2⟩ := HT.out
                have h := RD.out.yes HBB.out.2 (by omega) EB.out (by rw [← ER.out]; exact hge)
                rw [← e1, ← e2, ey, ← HP.out, ← es, ← ER.out] at h
                unfold Hid
                rw [S4.out]; exact h
              have WN : Hid (Rw w (.slice ad n cap) (.slice bd m cap') n m d e gq (setD f o s) x4 K f4 (w4.setCell ⟨gq, o, none⟩ (.int .i64 (s : Int)))) := W4.out.put HV.out HU.out o s _ GQ.out AB.out.1 AB.out.2
              clear ey es W4 hf
              go_wp2
              go_roundw
              case rel => exact ⟨j, setD f o s, f4, K, by omega, rfl, EK.out.2.2, RN.out, WN.out⟩
              case measure => simp [intOf]
        · obtain ⟨cv, ecv, hcv⟩ : ∃ cv : Int, cmpv (R' : Int) (B : Int) = cv ∧ cv < 0 := ⟨_, rfl, by unfold cmpv; rw [if_pos (by omega)]; omega⟩
          rw [ecv] at CM
          clear ecv
          have RN : Hid (Rd A B n j f (dsum g3 L3)) := by unfold Hid; rw [S3.out, ER.out]; exact RD.out.no HBB.out.2 EB.out (by rw [← ER.out]; omega)
          have cn : ¬ (0 : Int) ≤ cv := by omega
          go_wp2_with (go_at_call 118; refine Calls.mono CM.out ?_; rintro e1 w' ⟨rfl, hw⟩; (have hw2 := hw.symm); clear hw; subst hw2)
          go_roundw
          case rel => exact ⟨j, f, g3, L3, by omega, rfl, by have := EM2.out; omega, RN.out, W3.out⟩
          case measure => simp [intOf]
      · obtain rfl : b = 1 := by omega
        go_upto_region 8 with (go_at_call 132; refine Calls.mono BT.out ?_; rintro e1 w' ⟨rfl, hw⟩; (have hw2 := hw.symm); clear hw; subst hw2)
        clear BT
        go_upto_region 9 with (first
          | (go_at_call 108; refine (small1_is _).mono ?_; rintro e1 w5 ⟨x5, rfl, h5, hB5⟩; (have W5 : Hid (Rw w (.slice ad n cap) (.slice bd m cap') n m d e gq f x1 (L + 1) f1 w5) := W1.out.past hB5 (W1.out.rv.below hB5)); (have O5 : Hid (RowAt w5 x5 1 oneD) := h5); clear h5 hB5)
          | (go_at_call 78; refine (plus_is w5 _ _ (L + 1) 1 f1 oneD W5.out.rv O5.out (by omega) (by omega) (L + 1) (by omega)).mono ?_; rintro e1 w6 ⟨x6, f6, rfl, h6, hs6, hB6⟩; (have W6 : Hid (Rw w (.slice ad n cap) (.slice bd m cap') n m d e gq f x6 (L + 1 + 1) f6 w6) := W5.out.past hB6 h6); (have S6 : Hid (dsum f6 (L + 1 + 1) = 2 * dsum g L + 1) := (by have h7 := one_sum (L + 1) (by omega); have h8 := S1.out; unfold Hid; omega)); clear h6 hs6 hB6))
        clear W1 W5 O5 S1
        have CU : Hid _ := cut_is w6 _ (L + 1 + 1) f6 W6.out.rv m2 (by omega)
        go_upto_region 10 with (go_at_call 133; refine Calls.mono CU.out ?_; rintro e1 w3 ⟨x3, rfl, h3, hB3⟩; (have W3 : Hid (Rw w (.slice ad n cap) (.slice bd m cap') n m d e gq f x3 (min m2 (L + 1 + 1)) (cutD f6 m2) w3) := W6.out.past hB3 h3); clear h3 hB3)
        have S3 : Hid (dsum (cutD f6 m2) (min m2 (L + 1 + 1)) = 2 * dsum g L + 1) := by
          have h1 := RD.out.rlt HBB.out.2
          have h2 := dsum_lt HE.out m
          have h4 : 256 ^ m2 = 65536 * 256 ^ m := by rw [EM2.out, Nat.pow_add]; omega
          unfold Hid
          rw [dsum_cut W6.out.rv.2.1 (L + 1 + 1) m2 (by rw [S6.out]; have := HBB.out.1; omega)]
          exact S6.out
        obtain ⟨L3, eL3⟩ : ∃ L3, min m2 (L + 1 + 1) = L3 := ⟨_, rfl⟩
        have hL3 : L3 ≤ m2 := by omega
        rw [eL3] at W3 S3
        generalize cutD f6 m2 = g3 at W3 S3
        clear CU W6 S6 eL3
        obtain ⟨R', eR'⟩ : ∃ R', R' = 2 * dsum g L + 1 := ⟨_, rfl⟩
        have ER : Hid (R' = 2 * dsum g L + 1) := eR'
        rw [← eR'] at S3
        clear eR'
        have CM : Hid (Calls Tryz.prog 118 #[x3, .slice bd m cap'] w3 fun r w' => r = .returned (.int .i64 (cmpv (R' : Int) (B : Int))) ∧ w' = w3) := by
          have h := compare_is w3 _ _ L3 m g3 e W3.out.rv W3.out.bv m2 (by have := EM2.out; omega)
          rw [W3.out.rv.more m2 hL3, S3.out, W3.out.bv.more m2 (by have := EM2.out; omega), HBB.out.1] at h
          exact h
        by_cases hge : B ≤ R'
        · obtain ⟨cv, ecv, hcv⟩ : ∃ cv : Int, cmpv (R' : Int) (B : Int) = cv ∧ 0 ≤ cv := ⟨_, rfl, by unfold cmpv; rw [if_neg (by omega)]; split <;> omega⟩
          rw [ecv] at CM
          clear ecv
          obtain ⟨K, eK⟩ : ∃ K, K = max L3 m := ⟨_, rfl⟩
          have MI : Hid _ := minus_is w3 _ _ L3 m g3 e W3.out.rv W3.out.bv (by omega) (by omega) K eK (by rw [W3.out.rv.more K (by omega), W3.out.bv.more K (by omega), S3.out, HBB.out.1]; exact hge)
          have EK : Hid (dsum g3 K = R' ∧ dsum e K = B ∧ K ≤ m + 2) := ⟨by rw [W3.out.rv.more K (by omega), S3.out], by rw [W3.out.bv.more K (by omega), HBB.out.1], by have := EM2.out; omega⟩
          clear eK
          go_upto_region 12 with (first
            | (go_at_call 118; refine Calls.mono CM.out ?_; rintro e1 w' ⟨rfl, hw⟩; (have hw2 := hw.symm); clear hw; subst hw2)
            | (go_at_call 81; refine Calls.mono MI.out ?_; rintro e1 w4 ⟨x4, f4, rfl, h4, hs4, hab, hB4⟩; (have AB : Hid (Above x4 w3.heap.size ∧ gq < w3.heap.size) := ⟨hab, W3.out.ql⟩); (have W4 : Hid (Rw w (.slice ad n cap) (.slice bd m cap') n m d e gq f x4 K f4 w4) := W3.out.past hB4 h4); (have S4 : Hid (dsum f4 K = R' - B) := (by have := EK.out; unfold Hid; omega)); clear h4 hs4 hB4 hab))
          clear CM MI W3 S3 hcv
          obtain ⟨t, et⟩ : ∃ t : Nat, t = j % 8 := ⟨_, rfl⟩
          obtain ⟨o, eo⟩ : ∃ o : Nat, o = j / 8 := ⟨_, rfl⟩
          have t1 : Int.tmod (j : Int) 8 = (t : Int) := by rw [Int.tmod_eq_emod_of_nonneg (by omega)]; omega
          have t2 : Int.tdiv (j : Int) 8 = (o : Int) := by rw [Int.tdiv_eq_ediv_of_nonneg (by omega)]; omega
          have tw : IntKind.i64.wrap (t : Int) = (t : Int) := by rw [IntKind.wrap_i64]; omega
          have ow : IntKind.i64.wrap (o : Int) = (o : Int) := by rw [IntKind.wrap_i64]; omega
          have t8 : t < 8 := by omega
          have oN : o < n := by omega
          have oI : (o : Int) < (n : Int) := by omega
          have HT : Hid (t = j % 8 ∧ o = j / 8) := ⟨et, eo⟩
          clear et eo
          go_wp2
          go_loopw [9, 10] (fun s9 s10 wx => ∃ k p : Nat, k ≤ t ∧ p = 2 ^ k ∧ s9 = .int .i64 (p : Int) ∧ s10 = .int .i64 (k : Int) ∧ wx = w4) (fun _ s10 _ => t - (intOf s10).toNat)
          case atStart => exact ⟨0, 1, by omega, rfl, rfl, rfl, rfl⟩
          case round =>
            obtain ⟨k, p, hk, hp, rfl, rfl, hw⟩ := hrel
            have hw2 := hw.symm
            clear hw
            subst hw2
            have p256 : p ≤ 128 := by rw [hp]; exact Nat.le_trans (Nat.pow_le_pow_right (by decide) (show k ≤ 7 by omega)) (by decide)
            have pI : (p : Int) ≤ 128 := by omega
            have HP : Hid (p = 2 ^ k) := hp
            clear hp
            by_cases hkt : k < t
            · have kI : (k : Int) < (t : Int) := by omega
              obtain ⟨p', ep'⟩ : ∃ p' : Nat, p' = 2 * p := ⟨_, rfl⟩
              have q1 : (2 : Int) * (p : Int) = (p' : Int) := by omega
              have q2 : IntKind.i64.wrap (p' : Int) = (p' : Int) := by rw [IntKind.wrap_i64]; omega
              have EP : Hid (p' = 2 ^ (k + 1)) := by unfold Hid; rw [ep', HP.out, Nat.pow_succ]; omega
              clear ep'
              go_wp2
              go_roundw
              case rel => exact ⟨k + 1, p', by omega, EP.out, rfl, by go_num, trivial⟩
              case measure => simp [intOf]; omega
            · obtain rfl : k = t := by omega
              have cq := (W4.out.qv o oN).1
              have fq := (W4.out.qv o oN).2
              have hf := RD.out.lt o
              obtain ⟨y, ey⟩ : ∃ y, f o = y := ⟨_, rfl⟩
              rw [ey] at cq hf
              obtain ⟨s, es⟩ : ∃ s : Nat, s = y + p := ⟨_, rfl⟩
              have s1 : (y : Int) + (p : Int) = (s : Int) := by omega
              have s2 : IntKind.i64.wrap (s : Int) = (s : Int) := by rw [IntKind.wrap_i64]; omega
              have RN : Hid (Rd A B n j (setD f o s) (dsum f4 K)) := by
                obtain ⟨e1, e2⟩ := HT.out
                have h := RD.out.yes HBB.out.2 (by omega) EB.out (by rw [← ER.out]; exact hge)
                rw [← e1, ← e2, ey, ← HP.out, ← es, ← ER.out] at h
                unfold Hid
                rw [S4.out]; exact h
              have WN : Hid (Rw w (.slice ad n cap) (.slice bd m cap') n m d e gq (setD f o s) x4 K f4 (w4.setCell ⟨gq, o, none⟩ (.int .i64 (s : Int)))) := W4.out.put HV.out HU.out o s _ GQ.out AB.out.1 AB.out.2
              clear ey es W4 hf
              go_wp2
              go_roundw
              case rel => exact ⟨j, setD f o s, f4, K, by omega, rfl, EK.out.2.2, RN.out, WN.out⟩
              case measure => simp [intOf]
        · obtain ⟨cv, ecv, hcv⟩ : ∃ cv : Int, cmpv (R' : Int) (B : Int) = cv ∧ cv < 0 := ⟨_, rfl, by unfold cmpv; rw [if_pos (by omega)]; omega⟩
          rw [ecv] at CM
          clear ecv
          have RN : Hid (Rd A B n j f (dsum g3 L3)) := by unfold Hid; rw [S3.out, ER.out]; exact RD.out.no HBB.out.2 EB.out (by rw [← ER.out]; omega)
          have cn : ¬ (0 : Int) ≤ cv := by omega
          go_wp2_with (go_at_call 118; refine Calls.mono CM.out ?_; rintro e1 w' ⟨rfl, hw⟩; (have hw2 := hw.symm); clear hw; subst hw2)
          go_roundw
          case rel => exact ⟨j, f, g3, L3, by omega, rfl, by have := EM2.out; omega, RN.out, W3.out⟩
          case measure => simp [intOf]
end Go.Proofs.YtpadpmkfhljiiaaGreat
/- The document's Exp. -/
namespace Go.Proofs.YtpadpmkfhljiiaaGreat
open Go.RowKit
theorem pow_mod_int (x m : Int) : ∀ n : Nat, (x % m) ^ n % m = x ^ n % m
  | 0 => by simp
  | n + 1 => by rw [Int.pow_succ, Int.pow_succ, Int.mul_emod, pow_mod_int x m n, Int.emod_emod_of_dvd _ (Int.dvd_refl m), ← Int.mul_emod]
theorem MM_nat : ((256 ^ 32 : Nat) : Int) = MM := by decide
/-- a product, cut to a word's digits -/
theorem tcut_is (w : World) (v u : Value) (n m : Nat) (d e : Nat → Nat) (hv : RowAt w v n d) (hu : RowAt w u m e) (hn : n ≤ 32) (hm : m ≤ 32) :
    Calls Tryz.prog 85 #[v, u] w fun r w' => ∃ x, r = .returned x ∧ Below w.heap.size w w' ∧
      ∀ W, Below w'.heap.size w' W → Calls Tryz.prog 133 #[x, .int .i64 32] W fun r w' => ∃ y k f, r = .returned y ∧ k ≤ 32 ∧ RowAt w' y k f ∧ dsum f k = dsum d n * dsum e m % 256 ^ 32 ∧ Below W.heap.size W w' := by
  refine (times_is w v u n m d e hv hu (by omega) (by omega)).mono ?_
  rintro r w' ⟨x, f, rfl, hx, hs, hB⟩
  refine ⟨x, rfl, hB, fun W hW => ?_⟩
  refine (cut_is W x (n + m + 1) f (hx.below hW) 32 (by omega)).mono ?_
  rintro r w2 ⟨y, rfl, hy, hB2⟩
  refine ⟨y, _, _, rfl, by omega, hy, ?_, hB2⟩
  have h1 := cutD_sum hx.2.1 (n + m + 1) 32
  rw [hs] at h1
  rw [← h1]
  refine (dsum_more (fun i hi => hy.1 i (by omega)) (n + m + 1) (by omega)).symm
structure RExp (w : World) (a1 a2 : Value) (X Y : Nat) (W : World) : Prop where
  bel : Below w.heap.size w W
  br : Box W (w.heap.size + 1 + 1) 0 0 0 0
  re : RowAt W a1 32 (dig Y)
  ry : RowAt W a2 32 (dig X)
theorem RExp.past {w W W' : World} {a1 a2 : Value} {X Y : Nat} (h : RExp w a1 a2 X Y W) (k : Below W.heap.size W W') : RExp w a1 a2 X Y W' :=
  ⟨h.bel.trans (k.mono h.bel.size), h.br.below k h.br.lt, h.re.below k, h.ry.below k⟩
set_option maxHeartbeats 4000000 in
set_option maxRecDepth 100000 in
theorem rexp_any (x y : Int) (a0 a1 a2 a3 b0 b1 b2 b3 : Int) (w : World) (ha : IsW x a0 a1 a2 a3) (hb : IsW y b0 b1 b2 b3) (Y : Nat) (hY : V b0 b1 b2 b3 = (Y : Int)) :
    Calls Tryz.prog 112 #[.agg #[.int .u64 a0, .int .u64 a1, .int .u64 a2, .int .u64 a3], .agg #[.int .u64 b0, .int .u64 b1, .int .u64 b2, .int .u64 b3]] w fun e w' => ∃ s0 s1 s2 s3 : Int, e = .returned (.agg #[.int .u64 s0, .int .u64 s1, .int .u64 s2, .int .u64 s3]) ∧ IsW (x ^ Y) s0 s1 s2 s3 ∧ Below w.heap.size w w' := by
  obtain ⟨X, hX, eX, lX⟩ := mod_nat ha
  have lY : Y < 256 ^ 32 := by
    obtain ⟨Y', h1, _, h3⟩ := mod_nat hb
    have : Y = Y' := by rw [hY] at h1; omega
    omega
  have OA : Hid (∀ W, Calls Tryz.prog 79 #[.agg #[.int .u64 a0, .int .u64 a1, .int .u64 a2, .int .u64 a3]] W fun e w' => ∃ v, e = .returned v ∧ RowAt w' v 32 (dig X) ∧ Below W.heap.size W w') := fun W => of_is x a0 a1 a2 a3 W ha X hX
  have OB : Hid (∀ W, Calls Tryz.prog 79 #[.agg #[.int .u64 b0, .int .u64 b1, .int .u64 b2, .int .u64 b3]] W fun e w' => ∃ v, e = .returned v ∧ RowAt w' v 32 (dig Y) ∧ Below W.heap.size W w') := fun W => of_is y b0 b1 b2 b3 W hb Y hY
  have EX : Hid ((X : Int) = x % MM) := eX
  have SX : Hid (dsum (dig X) 32 = X) := dig_all X lX
  have I0 : Hid (Below w.heap.size w (((w.alloc (.cells #[.int .u64 a0, .int .u64 a1, .int .u64 a2, .int .u64 a3] 24)).alloc (.cells #[.int .u64 b0, .int .u64 b1, .int .u64 b2, .int .u64 b3] 24)).alloc (.cells #[.int .u64 0, .int .u64 0, .int .u64 0, .int .u64 0] 24))) := by
    unfold Hid; repeat' (first | with_reducible exact Below.refl _ _ | with_reducible exact Below.refl _ _ | with_reducible refine Below.drew ?_ | with_reducible refine bdrewN ?_ _ | with_reducible refine Below.alloc ?_ ?_ _ | with_reducible refine Below.setCell ?_ ?_ _ | omega | (simp; done) | (simp; omega))
  have A0 : Hid (∀ W, W = (((w.alloc (.cells #[.int .u64 a0, .int .u64 a1, .int .u64 a2, .int .u64 a3] 24)).alloc (.cells #[.int .u64 b0, .int .u64 b1, .int .u64 b2, .int .u64 b3] 24)).alloc (.cells #[.int .u64 0, .int .u64 0, .int .u64 0, .int .u64 0] 24)) →
      Box W w.heap.size a0 a1 a2 a3 ∧ Box W (w.heap.size + 1) b0 b1 b2 b3 ∧ Box W (w.heap.size + 1 + 1) 0 0 0 0) := fun W e => by
    subst e
    have h2 := Box.new (w.alloc (.cells #[.int .u64 a0, .int .u64 a1, .int .u64 a2, .int .u64 a3] 24)) 24 b0 b1 b2 b3
    have h3 := Box.new ((w.alloc (.cells #[.int .u64 a0, .int .u64 a1, .int .u64 a2, .int .u64 a3] 24)).alloc (.cells #[.int .u64 b0, .int .u64 b1, .int .u64 b2, .int .u64 b3] 24)) 24 0 0 0 0
    rw [World.size_alloc] at h2 h3
    rw [World.size_alloc] at h3
    exact ⟨((Box.new w 24 a0 a1 a2 a3).alloc _).alloc _, h2.alloc _, h3⟩
  clear ha hb hX hY eX lX
  go_enter Tryz.func112, Tryz.ntmps112
  go_wp2_with fail
  refine (OB.out _).mono ?_
  rintro e v1 ⟨a1', rfl, h1, hB⟩
  obtain ⟨k1, k2, k3⟩ := A0.out _ rfl
  have W1 : Hid (Below w.heap.size w v1) := Below.trans I0.out (hB.mono I0.out.size)
  have BA1 : Hid (Box v1 w.heap.size a0 a1 a2 a3) := k1.below hB k1.lt
  have BR1 : Hid (Box v1 (w.heap.size + 1 + 1) 0 0 0 0) := k3.below hB k3.lt
  have RE1 : Hid (RowAt v1 a1' 32 (dig Y)) := h1
  clear hB k1 k2 k3 h1 A0 I0 OB
  go_wp2_with fail
  refine (small1_is _).mono ?_
  rintro e v2 ⟨s6, rfl, h6, hB⟩
  have W2 : Hid (Below w.heap.size w v2) := Below.trans W1.out (hB.mono W1.out.size)
  have BA2 : Hid (Box v2 w.heap.size a0 a1 a2 a3) := Box.below BA1.out hB (Box.lt BA1.out)
  have BR2 : Hid (Box v2 (w.heap.size + 1 + 1) 0 0 0 0) := Box.below BR1.out hB (Box.lt BR1.out)
  have RE2 : Hid (RowAt v2 a1' 32 (dig Y)) := RowAt.below RE1.out hB
  have R62 : Hid (RowAt v2 s6 1 oneD) := h6
  obtain ⟨c0, c1, c2, c3, _⟩ := Box.facts BA2.out
  clear hB h6 W1 BA1 BR1 RE1
  go_wp2_with fail
  refine (OA.out _).mono ?_
  rintro e v3 ⟨a2', rfl, h2, hB⟩
  have X3 : Hid (RExp w a1' a2' X Y v3) := ⟨Below.trans W2.out (hB.mono W2.out.size), Box.below BR2.out hB (Box.lt BR2.out), RowAt.below RE2.out hB, h2⟩
  have R63 : Hid (RowAt v3 s6 1 oneD) := RowAt.below R62.out hB
  clear hB h2 W2 BA2 BR2 RE2 R62 c0 c1 c2 c3 OA
  go_wp2
  go_loopw [6, 8] (fun sx si wr => ∃ (j n : Nat) (d : Nat → Nat), si = .int .i64 ((j : Int) - 1) ∧ j ≤ 256 ∧ n ≤ 32 ∧ RowAt wr sx n d ∧ dsum d n = X ^ (Y / 2 ^ j) % 256 ^ 32 ∧ RExp w a1' a2' X Y wr) (fun _ si _ => (intOf si + 1).toNat)
  case atStart =>
    refine ⟨256, 1, oneD, rfl, by omega, by omega, R63.out, ?_, X3.out⟩
    have e : (256 ^ 32 : Nat) = 2 ^ 256 := by decide
    rw [Nat.div_eq_of_lt (by rw [← e]; exact lY), Nat.pow_zero, e]
    decide
  case round =>
    obtain ⟨j, n, d, rfl, hj, hn, hR, hs, hX⟩ := hrel
    clear X3 R63
    have RR : Hid (RowAt wr u6 n d) := hR
    have SS : Hid _ := hs
    have XX : Hid (RExp w a1' a2' X Y wr) := hX
    clear hR hs hX
    rcases j with _ | j
    · have WD : Hid _ := word_is wr u6 n d RR.out
      have VS : Hid (∀ s0 s1 s2 s3 : Int, IsW (dsum d 32 : Int) s0 s1 s2 s3 → IsW (x ^ Y) s0 s1 s2 s3) := fun s0 s1 s2 s3 h => h.cong (by
        have h1 : dsum d 32 = dsum d n := dsum_more RR.out.1 32 hn
        have h2 := SS.out
        rw [Nat.pow_zero, Nat.div_one] at h2
        rw [h1, h2, Int.natCast_emod, Int.natCast_pow, MM_nat, Int.emod_emod_of_dvd _ (Int.dvd_refl MM), EX.out, pow_mod_int])
      go_wp2_with fail
      refine Calls.mono WD.out ?_
      rintro e x1 ⟨s0, s1, s2, s3, rfl, hs, hB⟩
      have X1 : Hid (RExp w a1' a2' X Y x1) := RExp.past XX.out hB
      have V1 : Hid (IsW (x ^ Y) s0 s1 s2 s3) := VS.out s0 s1 s2 s3 hs
      clear hs hB WD VS
      obtain ⟨r0, r1, r2, r3, f0, f1, f2, f3⟩ := Box.facts X1.out.br
      go_wp2
      exact bodyPost_ret (v := .agg #[.int .u64 s0, .int .u64 s1, .int .u64 s2, .int .u64 s3]) (by simp [results, Tryz.results112, go_sem, r0, r1, r2, r3]) rfl ⟨s0, s1, s2, s3, rfl, V1.out, below_put X1.out.bel (by omega) _ _ _ _⟩
    · rw [show ((j + 1 : Nat) : Int) - 1 = (j : Int) by omega]
      have jI : (0 : Int) ≤ (j : Int) := by omega
      have T1 : Hid _ := tcut_is wr u6 u6 n n d d RR.out RR.out hn hn
      have hh := half_bit Y j
      have HH : Hid _ := hh
      have db := dig_bit Y j (by omega)
      have DB : Hid _ := db
      clear hh db
      go_wp2_with fail
      refine Calls.mono T1.out ?_
      rintro e x1 ⟨t, rfl, hB, hcut⟩
      have X1 : Hid (RExp w a1' a2' X Y x1) := RExp.past XX.out hB
      have C1 : Hid _ := hcut x1 (Below.refl _ _)
      clear hB hcut T1
      go_wp2_with fail
      refine Calls.mono C1.out ?_
      rintro e x2 ⟨p, k, f, rfl, hk, hp, hsum, hB⟩
      have X2 : Hid (RExp w a1' a2' X Y x2) := RExp.past X1.out hB
      have RP : Hid (RowAt x2 p k f) := hp
      have SP : Hid (dsum f k = X ^ (2 * (Y / 2 ^ (j + 1))) % 256 ^ 32) := by
        unfold Hid
        rw [hsum, SS.out, ← Nat.mul_mod, ← Nat.pow_add, Nat.two_mul]
      have BT : Hid _ := bit_is x2 a1' 32 (dig Y) X2.out.re j (by omega)
      clear hB hp hsum C1 X1 XX RR SS
      go_upto_region 8 with fail
      by_cases hbt : Y.testBit j = true
      · have T2 : Hid _ := tcut_is x2 p a2' k 32 f (dig X) RP.out X2.out.ry hk (by omega)
        have BT2 : Hid (Calls Tryz.prog 132 #[a1', .int .i64 (j : Int)] x2 fun e w' => e = .returned (.int .i64 1) ∧ w' = x2) := by
          have h := BT.out
          rw [DB.out, if_pos hbt] at h; exact h
        clear BT
        go_upto_region 9 with (go_at_call 132; refine Calls.mono BT2.out ?_; rintro e w' ⟨rfl, hw⟩; (have hw2 := hw.symm); clear hw; subst hw2)
        clear BT2
        go_wp2_with fail
        refine Calls.mono T2.out ?_
        rintro e x3 ⟨t2, rfl, hB, hcut⟩
        have X3 : Hid (RExp w a1' a2' X Y x3) := RExp.past X2.out hB
        have C2 : Hid _ := hcut x3 (Below.refl _ _)
        clear hB hcut T2
        go_wp2_with fail
        refine Calls.mono C2.out ?_
        rintro e x4 ⟨p2, k2, f2, rfl, hk2, hp2, hsum, hB⟩
        have X4 : Hid (RExp w a1' a2' X Y x4) := RExp.past X3.out hB
        have RP2 : Hid (RowAt x4 p2 k2 f2) := hp2
        have SP2 : Hid (dsum f2 k2 = X ^ (Y / 2 ^ j) % 256 ^ 32) := by
          unfold Hid
          rw [hsum, SP.out, SX.out, HH.out, if_pos hbt]
          generalize Y / 2 ^ (j + 1) = q
          rw [show X ^ (2 * q + 1) = X ^ (2 * q) * X from Nat.pow_succ _ _, Nat.mod_mul_mod]
        clear hB hp2 hsum C2 X3 X2 RP SP
        go_wp2
        go_roundw
        case rel => exact ⟨j, k2, f2, rfl, by omega, hk2, RP2.out, SP2.out, X4.out⟩
        case measure => simp [intOf]
      · have BT2 : Hid (Calls Tryz.prog 132 #[a1', .int .i64 (j : Int)] x2 fun e w' => e = .returned (.int .i64 0) ∧ w' = x2) := by
          have h := BT.out
          rw [DB.out, if_neg hbt] at h; exact h
        clear BT
        have SP2 : Hid (dsum f k = X ^ (Y / 2 ^ j) % 256 ^ 32) := by
          unfold Hid
          rw [SP.out, HH.out, if_neg hbt]
          generalize Y / 2 ^ (j + 1) = q
          rfl
        go_wp2_with (go_at_call 132; refine Calls.mono BT2.out ?_; rintro e w' ⟨rfl, hw⟩; (have hw2 := hw.symm); clear hw; subst hw2)
        go_roundw
        case rel => exact ⟨j, k, f, rfl, by omega, hk, RP.out, SP2.out, X2.out⟩
        case measure => simp [intOf]
theorem rexp_is (x y : Int) (Y : Nat) (a0 a1 a2 a3 b0 b1 b2 b3 p0 p1 p2 p3 : Int) (w : World) (ha : IsW x a0 a1 a2 a3) (hb : IsW y b0 b1 b2 b3) (hY : V b0 b1 b2 b3 = (Y : Int)) (hp : IsW (x ^ Y) p0 p1 p2 p3) :
    Calls Tryz.prog 112 #[.agg #[.int .u64 a0, .int .u64 a1, .int .u64 a2, .int .u64 a3], .agg #[.int .u64 b0, .int .u64 b1, .int .u64 b2, .int .u64 b3]] w fun e w' => e = .returned (.agg #[.int .u64 p0, .int .u64 p1, .int .u64 p2, .int .u64 p3]) ∧ Below w.heap.size w w' := by
  refine (rexp_any x y a0 a1 a2 a3 b0 b1 b2 b3 w ha hb Y hY).mono ?_
  rintro e w' ⟨s0, s1, s2, s3, rfl, hs, hB⟩
  obtain ⟨rfl, rfl, rfl, rfl⟩ := hs.eq hp rfl
  exact ⟨rfl, hB⟩
end Go.Proofs.YtpadpmkfhljiiaaGreat
