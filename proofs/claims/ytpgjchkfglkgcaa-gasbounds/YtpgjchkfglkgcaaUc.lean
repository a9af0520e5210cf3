/- What passes, what is made with, what is given back: of both kinds. -/
import Derived.Test.YtpgjchkfglkgcaaUa
import Derived.Test.YtpgjchkfglkgcaaUl
namespace Go.Proofs.Ytpgjchkfglkgcaa
open Go.RowKit
def N64 (n : Int) : Prop := 0 ≤ n ∧ n ≤ 18446744073709551615
/-- what is kept back -/
def kpt (n : Int) : Int := if n / 64 < 5000 then 5000 else n / 64
theorem kpt_lo {n : Int} (h : n / 64 < 5000) : kpt n = 5000 := by unfold kpt; rw [if_pos h]
theorem kpt_hi {n : Int} (h : ¬ n / 64 < 5000) : kpt n = n / 64 := by unfold kpt; rw [if_neg h]
def psd (n : Int) : Bool := decide (kpt n + 2300 ≤ n)
def psn (n : Int) : Int := if kpt n + 2300 ≤ n then n - kpt n else 0
theorem ps_yes {n : Int} (h : kpt n + 2300 ≤ n) : psn n = n - kpt n ∧ psd n = true := by unfold psn psd; rw [if_pos h]; exact ⟨rfl, by simp [h]⟩
theorem ps_no {n : Int} (h : ¬ kpt n + 2300 ≤ n) : psn n = 0 ∧ psd n = false := by unfold psn psd; rw [if_neg h]; exact ⟨rfl, by simp [h]⟩
def bck (g l r : Int) : Int := if r < 0 ∨ g < l then 0 else if r < (g - l) / 5 then r else (g - l) / 5
theorem bck_no {g l r : Int} (h : r < 0 ∨ g < l) : bck g l r = 0 := by unfold bck; rw [if_pos h]
theorem bck_lo {g l r : Int} (h : 0 ≤ r) (k : l ≤ g) (m : r < (g - l) / 5) : bck g l r = r := by unfold bck; rw [if_neg (by omega), if_pos m]
theorem bck_hi {g l r : Int} (h : 0 ≤ r) (k : l ≤ g) (m : ¬ r < (g - l) / 5) : bck g l r = (g - l) / 5 := by unfold bck; rw [if_neg (by omega), if_neg m]
theorem pass_is (w : World) (n : Int) (hn : N64 n) : Calls Try.prog 28 #[.int .u64 n] w fun e w' => e = .returned (.tuple #[.int .u64 (psn n), .bool (psd n)]) ∧ w' = w := by
  obtain ⟨h0, h1⟩ := hn
  by_cases c0 : n / 64 < 5000
  · by_cases c1 : n < 5000
    · rw [(ps_no (by rw [kpt_lo c0]; omega)).1, (ps_no (by rw [kpt_lo c0]; omega)).2]
      go_enter Try.func28, Try.ntmps28
      go_wp2
      go_ret2
      exact ⟨rfl, rfl⟩
    by_cases c2 : n < 7300
    · rw [(ps_no (by rw [kpt_lo c0]; omega)).1, (ps_no (by rw [kpt_lo c0]; omega)).2]
      have c3 : n - 5000 < 2300 := by omega
      go_enter Try.func28, Try.ntmps28
      go_wp2
      go_ret2
      exact ⟨rfl, rfl⟩
    · rw [(ps_yes (by rw [kpt_lo c0]; omega)).1, (ps_yes (by rw [kpt_lo c0]; omega)).2, kpt_lo c0]
      have c3 : ¬ n - 5000 < 2300 := by omega
      go_enter Try.func28, Try.ntmps28
      go_wp2
      go_ret2
      exact ⟨rfl, rfl⟩
  · rw [(ps_yes (by rw [kpt_hi c0]; omega)).1, (ps_yes (by rw [kpt_hi c0]; omega)).2, kpt_hi c0]
    have c1 : ¬ n < n / 64 := by omega
    have c3 : ¬ n - n / 64 < 2300 := by omega
    have c4 : ¬ n < n / 64 + 2300 := by omega
    go_enter Try.func28, Try.ntmps28
    go_wp2
    go_ret2
    exact ⟨rfl, rfl⟩
theorem passR_is (w : World) (n : Int) (hn : N64 n) : Calls Try.prog 29 #[.int .u64 n] w fun e w' => e = .returned (.tuple #[.int .u64 (psn n), .bool (psd n)]) ∧ w' = w := by
  obtain ⟨h0, h1⟩ := hn
  by_cases c0 : n / 64 < 5000
  · by_cases c1 : n < 5000
    · rw [(ps_no (by rw [kpt_lo c0]; omega)).1, (ps_no (by rw [kpt_lo c0]; omega)).2]
      go_enter Try.func29, Try.ntmps29
      go_wp2
      go_ret2
      exact ⟨rfl, rfl⟩
    by_cases c2 : n < 7300
    · rw [(ps_no (by rw [kpt_lo c0]; omega)).1, (ps_no (by rw [kpt_lo c0]; omega)).2]
      have c3 : n - 5000 < 2300 := by omega
      go_enter Try.func29, Try.ntmps29
      go_wp2
      go_ret2
      exact ⟨rfl, rfl⟩
    · rw [(ps_yes (by rw [kpt_lo c0]; omega)).1, (ps_yes (by rw [kpt_lo c0]; omega)).2, kpt_lo c0]
      have c3 : ¬ n - 5000 < 2300 := by omega
      go_enter Try.func29, Try.ntmps29
      go_wp2
      go_ret2
      exact ⟨rfl, rfl⟩
  · rw [(ps_yes (by rw [kpt_hi c0]; omega)).1, (ps_yes (by rw [kpt_hi c0]; omega)).2, kpt_hi c0]
    have c1 : ¬ n < n / 64 := by omega
    have c3 : ¬ n - n / 64 < 2300 := by omega
    have c4 : ¬ n < n / 64 + 2300 := by omega
    go_enter Try.func29, Try.ntmps29
    go_wp2
    go_ret2
    exact ⟨rfl, rfl⟩
theorem make_is (w : World) (n : Int) (hn : N64 n) : Calls Try.prog 30 #[.int .u64 n] w fun e w' => e = .returned (.int .u64 (n - n / 64)) ∧ w' = w := by
  obtain ⟨h0, h1⟩ := hn
  go_enter Try.func30, Try.ntmps30
  go_wp2
  go_ret
  exact ⟨rfl, rfl⟩
theorem makeR_is (w : World) (n : Int) (hn : N64 n) : Calls Try.prog 31 #[.int .u64 n] w fun e w' => e = .returned (.int .u64 (n - n / 64)) ∧ w' = w := by
  obtain ⟨h0, h1⟩ := hn
  go_enter Try.func31, Try.ntmps31
  go_wp2
  go_ret
  exact ⟨rfl, rfl⟩
theorem back_is (w : World) (g l r : Int) (hg : N64 g) (hl : N64 l) (hr : I64 r) : Calls Try.prog 32 #[.int .u64 g, .int .u64 l, .int .i64 r] w fun e w' => e = .returned (.int .u64 (bck g l r)) ∧ w' = w := by
  obtain ⟨g0, g1⟩ := hg
  obtain ⟨l0, l1⟩ := hl
  obtain ⟨r0, r1⟩ := hr
  by_cases c0 : r < 0
  · by_cases c1 : g < l
    · rw [bck_no (Or.inl c0)]
      go_enter Try.func32, Try.ntmps32
      go_wp2
      go_ret
      exact ⟨rfl, rfl⟩
    · rw [bck_no (Or.inl c0)]
      go_enter Try.func32, Try.ntmps32
      go_wp2
      go_ret
      exact ⟨rfl, rfl⟩
  by_cases c1 : g < l
  · rw [bck_no (Or.inr c1)]
    go_enter Try.func32, Try.ntmps32
    go_wp2
    go_ret
    exact ⟨rfl, rfl⟩
  by_cases c2 : r < (g - l) / 5
  · rw [bck_lo (by omega) (by omega) c2]
    go_enter Try.func32, Try.ntmps32
    go_wp2
    go_ret
    exact ⟨rfl, rfl⟩
  · rw [bck_hi (by omega) (by omega) c2]
    go_enter Try.func32, Try.ntmps32
    go_wp2
    all_goals (go_ret; exact ⟨ret_int (by omega), rfl⟩)
theorem backR_is (w : World) (g l r : Int) (hg : N64 g) (hl : N64 l) (hr : I64 r) : Calls Try.prog 33 #[.int .u64 g, .int .u64 l, .int .i64 r] w fun e w' => e = .returned (.int .u64 (bck g l r)) ∧ w' = w := by
  obtain ⟨g0, g1⟩ := hg
  obtain ⟨l0, l1⟩ := hl
  obtain ⟨r0, r1⟩ := hr
  by_cases c0 : r < 0
  · by_cases c1 : g < l
    · rw [bck_no (Or.inl c0)]
      go_enter Try.func33, Try.ntmps33
      go_wp2
      go_ret
      exact ⟨rfl, rfl⟩
    · rw [bck_no (Or.inl c0)]
      go_enter Try.func33, Try.ntmps33
      go_wp2
      go_ret
      exact ⟨rfl, rfl⟩
  by_cases c1 : g < l
  · rw [bck_no (Or.inr c1)]
    go_enter Try.func33, Try.ntmps33
    go_wp2
    go_ret
    exact ⟨rfl, rfl⟩
  by_cases c2 : r < (g - l) / 5
  · rw [bck_lo (by omega) (by omega) c2]
    go_enter Try.func33, Try.ntmps33
    go_wp2
    go_ret
    exact ⟨rfl, rfl⟩
  · rw [bck_hi (by omega) (by omega) c2]
    go_enter Try.func33, Try.ntmps33
    go_wp2
    all_goals (go_ret; exact ⟨ret_int (by omega), rfl⟩)
set_option maxHeartbeats 4000000 in
set_option maxRecDepth 100000 in
theorem gasPasses_core (w : World) (n A B : Int) (b : Bool) (M0 : Hid (∀ W, Calls Try.prog 28 #[.int .u64 n] W fun e w' => e = .returned (.tuple #[.int .u64 A, .bool b]) ∧ w' = W)) (R0 : Hid (∀ W, Calls Try.prog 29 #[.int .u64 n] W fun e w' => e = .returned (.tuple #[.int .u64 A, .bool b]) ∧ w' = W)) (M1 : Hid (∀ W, Calls Try.prog 30 #[.int .u64 n] W fun e w' => e = .returned (.int .u64 B) ∧ w' = W)) (R1 : Hid (∀ W, Calls Try.prog 31 #[.int .u64 n] W fun e w' => e = .returned (.int .u64 B) ∧ w' = W)) (L0 : Hid (∀ W, Calls Try.prog 28 #[.int .u64 7300] W fun e w' => e = .returned (.tuple #[.int .u64 2300, .bool true]) ∧ w' = W)) : Calls Try.prog 6 #[.int .u64 n] w fun e w' => e = .returned (.bool true) ∧ Below w.heap.size w w' := by
  go_enter Try.func6, Try.ntmps6
  go_upto_region 4 with (first | (go_at_call 28; refine (M0.out _).mono ?_; rintro e w' ⟨rfl, hw⟩; (have hw2 := hw.symm); clear hw; subst hw2) | (go_at_call 29; refine (R0.out _).mono ?_; rintro e w' ⟨rfl, hw⟩; (have hw2 := hw.symm); clear hw; subst hw2) | (go_at_call 30; refine (M1.out _).mono ?_; rintro e w' ⟨rfl, hw⟩; (have hw2 := hw.symm); clear hw; subst hw2))
  go_upto_region 5 with (go_at_call 28; refine (L0.out _).mono ?_; rintro e w' ⟨rfl, hw⟩; (have hw2 := hw.symm); clear hw; subst hw2)
  refine wp_region_lit ?_
  refine lst_val (v := .int .u64 A) (by rfl) ?_ ?_
  · go_simp
  simp only [Act.put, List.setIfInBounds_toArray, List.set_cons_zero, List.set_cons_succ]
  refine lst_val (v := .int .u64 A) (by rfl) ?_ ?_
  · go_simp
  simp only [Act.put, List.setIfInBounds_toArray, List.set_cons_zero, List.set_cons_succ]
  refine lst_val (v := .bool true) (by rfl) ?_ ?_
  · go_simp
  simp only [Act.put, List.setIfInBounds_toArray, List.set_cons_zero, List.set_cons_succ]
  refine lst_val (v := .bool true) (by rfl) ?_ ?_
  · go_simp
  simp only [Act.put, List.setIfInBounds_toArray, List.set_cons_zero, List.set_cons_succ]
  refine lst_val (v := .bool b) (by rfl) ?_ ?_
  · go_simp
  simp only [Act.put, List.setIfInBounds_toArray, List.set_cons_zero, List.set_cons_succ]
  refine lst_val (v := .bool b) (by rfl) ?_ ?_
  · go_simp
  simp only [Act.put, List.setIfInBounds_toArray, List.set_cons_zero, List.set_cons_succ]
  refine lst_val (v := .bool true) (by rfl) ?_ ?_
  · go_simp
  simp only [Act.put, List.setIfInBounds_toArray, List.set_cons_zero, List.set_cons_succ]
  refine lst_val (v := .bool true) (by rfl) ?_ ?_
  · go_simp
  simp only [Act.put, List.setIfInBounds_toArray, List.set_cons_zero, List.set_cons_succ]
  refine lst_val (v := .bool true) (by rfl) ?_ ?_
  · go_simp
  simp only [Act.put, List.setIfInBounds_toArray, List.set_cons_zero, List.set_cons_succ]
  refine lst_val (v := .int .u64 B) (by rfl) ?_ ?_
  · go_simp
  simp only [Act.put, List.setIfInBounds_toArray, List.set_cons_zero, List.set_cons_succ]
  refine lst_val (v := .int .u64 n) (by rfl) ?_ ?_
  · go_simp
  simp only [Act.put, List.setIfInBounds_toArray, List.set_cons_zero, List.set_cons_succ]
  refine lst_call (by rfl) (by go_simp) (R1.out _) ?_
  rintro e w' ⟨rfl, hw⟩
  have hw2 := hw.symm
  clear hw
  subst hw2
  refine ⟨_, rfl, ?_⟩
  simp only [Act.put, List.setIfInBounds_toArray, List.set_cons_zero, List.set_cons_succ]
  refine lst_val (v := .bool true) (by rfl) ?_ ?_
  · go_simp
  simp only [Act.put, List.setIfInBounds_toArray, List.set_cons_zero, List.set_cons_succ]
  refine lst_val (v := .bool true) (by rfl) ?_ ?_
  · go_simp
  simp only [Act.put, List.setIfInBounds_toArray, List.set_cons_zero, List.set_cons_succ]
  refine lst_val (v := .bool true) (by rfl) ?_ ?_
  · go_simp
  simp only [Act.put, List.setIfInBounds_toArray, List.set_cons_zero, List.set_cons_succ]
  refine lst_val (v := .int .u64 2300) (by rfl) ?_ ?_
  · go_simp
  simp only [Act.put, List.setIfInBounds_toArray, List.set_cons_zero, List.set_cons_succ]
  refine lst_val (v := .bool true) (by rfl) ?_ ?_
  · go_simp
  simp only [Act.put, List.setIfInBounds_toArray, List.set_cons_zero, List.set_cons_succ]
  refine lst_val (v := .bool true) (by rfl) ?_ ?_
  · go_simp
  simp only [Act.put, List.setIfInBounds_toArray, List.set_cons_zero, List.set_cons_succ]
  refine lst_val (v := .bool true) (by rfl) ?_ ?_
  · go_simp
  simp only [Act.put, List.setIfInBounds_toArray, List.set_cons_zero, List.set_cons_succ]
  refine lst_val (v := .bool true) (by rfl) ?_ ?_
  · go_simp
  simp only [Act.put, List.setIfInBounds_toArray, List.set_cons_zero, List.set_cons_succ]
  refine lst_val (v := .bool true) (by rfl) ?_ ?_
  · go_simp
  simp only [Act.put, List.setIfInBounds_toArray, List.set_cons_zero, List.set_cons_succ]
  refine lst_val (v := .bool true) (by rfl) ?_ ?_
  · go_simp
  simp only [Act.put, List.setIfInBounds_toArray, List.set_cons_zero, List.set_cons_succ]
  refine wpList_nil ?_
  go_wp2
  go_ret
  exact ⟨rfl, Below.refl _ _⟩
theorem gasPasses_walk (w : World) (n : Int) (hn : N64 n) : Calls Try.prog 6 #[.int .u64 n] w fun e w' => e = .returned (.bool true) ∧ Below w.heap.size w w' :=
  gasPasses_core w n _ _ _ (fun W => pass_is W n hn) (fun W => passR_is W n hn) (fun W => make_is W n hn) (fun W => makeR_is W n hn) (fun W => pass_is W 7300 ⟨by omega, by omega⟩)
set_option maxHeartbeats 4000000 in
set_option maxRecDepth 100000 in
theorem gasBacks_core (w : World) (g l r A : Int) (M0 : Hid (∀ W, Calls Try.prog 32 #[.int .u64 g, .int .u64 l, .int .i64 r] W fun e w' => e = .returned (.int .u64 A) ∧ w' = W)) (R0 : Hid (∀ W, Calls Try.prog 33 #[.int .u64 g, .int .u64 l, .int .i64 r] W fun e w' => e = .returned (.int .u64 A) ∧ w' = W)) (L0 : Hid (∀ W, Calls Try.prog 32 #[.int .u64 100, .int .u64 1, .int .i64 50] W fun e w' => e = .returned (.int .u64 19) ∧ w' = W)) : Calls Try.prog 7 #[.int .u64 g, .int .u64 l, .int .i64 r] w fun e w' => e = .returned (.bool true) ∧ Below w.heap.size w w' := by
  go_enter Try.func7, Try.ntmps7
  go_upto_region 2 with (go_at_call 32; refine (M0.out _).mono ?_; rintro e w' ⟨rfl, hw⟩; (have hw2 := hw.symm); clear hw; subst hw2)
  go_upto_region 3 with (go_at_call 32; refine (L0.out _).mono ?_; rintro e w' ⟨rfl, hw⟩; (have hw2 := hw.symm); clear hw; subst hw2)
  refine wp_region_lit ?_
  refine lst_val (v := .int .u64 A) (by rfl) ?_ ?_
  · go_simp
  simp only [Act.put, List.setIfInBounds_toArray, List.set_cons_zero, List.set_cons_succ]
  refine lst_val (v := .int .u64 g) (by rfl) ?_ ?_
  · go_simp
  simp only [Act.put, List.setIfInBounds_toArray, List.set_cons_zero, List.set_cons_succ]
  refine lst_val (v := .int .u64 l) (by rfl) ?_ ?_
  · go_simp
  simp only [Act.put, List.setIfInBounds_toArray, List.set_cons_zero, List.set_cons_succ]
  refine lst_val (v := .int .i64 r) (by rfl) ?_ ?_
  · go_simp
  simp only [Act.put, List.setIfInBounds_toArray, List.set_cons_zero, List.set_cons_succ]
  refine lst_call (by rfl) (by go_simp) (R0.out _) ?_
  rintro e w' ⟨rfl, hw⟩
  have hw2 := hw.symm
  clear hw
  subst hw2
  refine ⟨_, rfl, ?_⟩
  simp only [Act.put, List.setIfInBounds_toArray, List.set_cons_zero, List.set_cons_succ]
  refine lst_val (v := .bool true) (by rfl) ?_ ?_
  · go_simp
  simp only [Act.put, List.setIfInBounds_toArray, List.set_cons_zero, List.set_cons_succ]
  refine lst_val (v := .bool true) (by rfl) ?_ ?_
  · go_simp
  simp only [Act.put, List.setIfInBounds_toArray, List.set_cons_zero, List.set_cons_succ]
  refine lst_val (v := .int .u64 19) (by rfl) ?_ ?_
  · go_simp
  simp only [Act.put, List.setIfInBounds_toArray, List.set_cons_zero, List.set_cons_succ]
  refine lst_val (v := .bool true) (by rfl) ?_ ?_
  · go_simp
  simp only [Act.put, List.setIfInBounds_toArray, List.set_cons_zero, List.set_cons_succ]
  refine lst_val (v := .bool true) (by rfl) ?_ ?_
  · go_simp
  simp only [Act.put, List.setIfInBounds_toArray, List.set_cons_zero, List.set_cons_succ]
  refine lst_val (v := .bool true) (by rfl) ?_ ?_
  · go_simp
  simp only [Act.put, List.setIfInBounds_toArray, List.set_cons_zero, List.set_cons_succ]
  refine wpList_nil ?_
  go_wp2
  go_ret
  exact ⟨rfl, Below.refl _ _⟩
theorem gasBacks_walk (w : World) (g l r : Int) (hg : N64 g) (hl : N64 l) (hr : I64 r) : Calls Try.prog 7 #[.int .u64 g, .int .u64 l, .int .i64 r] w fun e w' => e = .returned (.bool true) ∧ Below w.heap.size w w' :=
  gasBacks_core w g l r _ (fun W => back_is W g l r hg hl hr) (fun W => backR_is W g l r hg hl hr) (fun W => back_is W 100 1 50 ⟨by omega, by omega⟩ ⟨by omega, by omega⟩ ⟨by omega, by omega⟩)
end Go.Proofs.Ytpgjchkfglkgcaa
