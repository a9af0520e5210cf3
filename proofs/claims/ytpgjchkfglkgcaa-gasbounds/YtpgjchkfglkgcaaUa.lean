/- Sizes: numbers brought within their bounds, words, and what they cost: of both kinds. No condition but that the number is an int. -/
import Derived.Test.YtpgjchkfglkgcaaWa
namespace Go.Proofs.Ytpgjchkfglkgcaa
open Go.RowKit
def I64 (n : Int) : Prop := -9223372036854775808 ≤ n ∧ n ≤ 9223372036854775807
def cnt (n : Int) : Int := if n < 0 then 0 else if 2147483648 < n then 2147483648 else n
theorem cnt_range (n : Int) : 0 ≤ cnt n ∧ cnt n ≤ 2147483648 := by unfold cnt; split <;> (try split) <;> omega
theorem cnt_lo {n : Int} (h : n < 0) : cnt n = 0 := by unfold cnt; rw [if_pos h]
theorem cnt_hi {n : Int} (h : 2147483648 < n) : cnt n = 2147483648 := by unfold cnt; rw [if_neg (by omega), if_pos h]
theorem cnt_mid {n : Int} (h : 0 ≤ n) (k : n ≤ 2147483648) : cnt n = n := by unfold cnt; rw [if_neg (by omega), if_neg (by omega)]
theorem counted_is (w : World) (n : Int) (hn : I64 n) : Calls Try.prog 43 #[.int .i64 n] w fun e w' => e = .returned (.int .u64 (cnt n)) ∧ w' = w := by
  obtain ⟨h0, h1⟩ := hn
  by_cases c0 : n < 0
  · rw [cnt_lo c0]
    go_enter Try.func43, Try.ntmps43
    go_wp2
    go_ret
    exact ⟨rfl, rfl⟩
  by_cases c1 : 2147483648 < n
  · rw [cnt_hi c1]
    go_enter Try.func43, Try.ntmps43
    go_wp2
    go_ret
    exact ⟨rfl, rfl⟩
  · rw [cnt_mid (by omega) (by omega)]
    go_enter Try.func43, Try.ntmps43
    go_wp2
    go_ret
    exact ⟨rfl, rfl⟩
theorem within_is (w : World) (n : Int) : Calls Try.prog 44 #[.int .i64 n] w fun e w' => e = .returned (.int .i64 (cnt n)) ∧ w' = w := by
  by_cases c0 : n < 0
  · rw [cnt_lo c0]
    go_enter Try.func44, Try.ntmps44
    go_wp2
    go_ret
    exact ⟨rfl, rfl⟩
  by_cases c1 : 2147483648 < n
  · rw [cnt_hi c1]
    go_enter Try.func44, Try.ntmps44
    go_wp2
    go_ret
    exact ⟨rfl, rfl⟩
  · rw [cnt_mid (by omega) (by omega)]
    go_enter Try.func44, Try.ntmps44
    go_wp2
    go_ret
    exact ⟨rfl, rfl⟩
theorem wordsOf_is (w : World) (n : Int) (hn : I64 n) : Calls Try.prog 42 #[.int .i64 n] w fun e w' => e = .returned (.int .u64 ((cnt n + 31) / 32)) ∧ w' = w := by
  have C : Hid (∀ W, Calls Try.prog 43 #[.int .i64 n] W fun e w' => e = .returned (.int .u64 (cnt n)) ∧ w' = W) := fun W => counted_is W n hn
  obtain ⟨c0, c1⟩ := cnt_range n
  generalize cnt n = c at *
  go_enter Try.func42, Try.ntmps42
  go_wp2_with (go_at_call 43; refine (C.out _).mono ?_; rintro e w' ⟨rfl, rfl⟩)
  all_goals (go_ret; exact ⟨ret_int (by omega), rfl⟩)
theorem words_is (w : World) (n : Int) (hn : I64 n) : Calls Try.prog 12 #[.int .i64 n] w fun e w' => e = .returned (.int .i64 ((cnt n + 31) / 32)) ∧ w' = w := by
  have C : Hid (∀ W, Calls Try.prog 42 #[.int .i64 n] W fun e w' => e = .returned (.int .u64 ((cnt n + 31) / 32)) ∧ w' = W) := fun W => wordsOf_is W n hn
  obtain ⟨c0, c1⟩ := cnt_range n
  generalize cnt n = c at *
  have d0 : 0 ≤ (c + 31) / 32 := by omega
  have d1 : (c + 31) / 32 ≤ 67108864 := by omega
  generalize (c + 31) / 32 = d at *
  go_enter Try.func12, Try.ntmps12
  go_wp2_with (go_at_call 42; refine (C.out _).mono ?_; rintro e w' ⟨rfl, rfl⟩)
  all_goals (go_ret; exact ⟨ret_int (by omega), rfl⟩)
theorem copy_is (w : World) (n : Int) (hn : I64 n) : Calls Try.prog 13 #[.int .i64 n] w fun e w' => e = .returned (.int .u64 (3 * ((cnt n + 31) / 32))) ∧ w' = w := by
  have C : Hid (∀ W, Calls Try.prog 42 #[.int .i64 n] W fun e w' => e = .returned (.int .u64 ((cnt n + 31) / 32)) ∧ w' = W) := fun W => wordsOf_is W n hn
  obtain ⟨c0, c1⟩ := cnt_range n
  generalize cnt n = c at *
  have d0 : 0 ≤ (c + 31) / 32 := by omega
  have d1 : (c + 31) / 32 ≤ 67108864 := by omega
  generalize (c + 31) / 32 = d at *
  go_enter Try.func13, Try.ntmps13
  go_wp2_with (go_at_call 42; refine (C.out _).mono ?_; rintro e w' ⟨rfl, rfl⟩)
  all_goals (go_ret; exact ⟨ret_int (by omega), rfl⟩)
theorem hash_is (w : World) (n : Int) (hn : I64 n) : Calls Try.prog 14 #[.int .i64 n] w fun e w' => e = .returned (.int .u64 (6 * ((cnt n + 31) / 32))) ∧ w' = w := by
  have C : Hid (∀ W, Calls Try.prog 42 #[.int .i64 n] W fun e w' => e = .returned (.int .u64 ((cnt n + 31) / 32)) ∧ w' = W) := fun W => wordsOf_is W n hn
  obtain ⟨c0, c1⟩ := cnt_range n
  generalize cnt n = c at *
  have d0 : 0 ≤ (c + 31) / 32 := by omega
  have d1 : (c + 31) / 32 ≤ 67108864 := by omega
  generalize (c + 31) / 32 = d at *
  go_enter Try.func14, Try.ntmps14
  go_wp2_with (go_at_call 42; refine (C.out _).mono ?_; rintro e w' ⟨rfl, rfl⟩)
  all_goals (go_ret; exact ⟨ret_int (by omega), rfl⟩)
theorem log_is (w : World) (n : Int) (hn : I64 n) : Calls Try.prog 15 #[.int .i64 n] w fun e w' => e = .returned (.int .u64 (8 * cnt n)) ∧ w' = w := by
  have C : Hid (∀ W, Calls Try.prog 43 #[.int .i64 n] W fun e w' => e = .returned (.int .u64 (cnt n)) ∧ w' = W) := fun W => counted_is W n hn
  obtain ⟨c0, c1⟩ := cnt_range n
  generalize cnt n = c at *
  go_enter Try.func15, Try.ntmps15
  go_wp2_with (go_at_call 43; refine (C.out _).mono ?_; rintro e w' ⟨rfl, rfl⟩)
  all_goals (go_ret; exact ⟨ret_int (by omega), rfl⟩)
theorem deploy_is (w : World) (n : Int) (hn : I64 n) : Calls Try.prog 16 #[.int .i64 n] w fun e w' => e = .returned (.int .u64 (200 * cnt n)) ∧ w' = w := by
  have C : Hid (∀ W, Calls Try.prog 43 #[.int .i64 n] W fun e w' => e = .returned (.int .u64 (cnt n)) ∧ w' = W) := fun W => counted_is W n hn
  obtain ⟨c0, c1⟩ := cnt_range n
  generalize cnt n = c at *
  go_enter Try.func16, Try.ntmps16
  go_wp2_with (go_at_call 43; refine (C.out _).mono ?_; rintro e w' ⟨rfl, rfl⟩)
  all_goals (go_ret; exact ⟨ret_int (by omega), rfl⟩)
theorem memory_is (w : World) (n : Int) (hn : I64 n) : Calls Try.prog 17 #[.int .i64 n] w fun e w' => e = .returned (.int .u64 (3 * cnt n + cnt n * cnt n / 512)) ∧ w' = w := by
  have C : Hid (∀ W, Calls Try.prog 43 #[.int .i64 n] W fun e w' => e = .returned (.int .u64 (cnt n)) ∧ w' = W) := fun W => counted_is W n hn
  obtain ⟨c0, c1⟩ := cnt_range n
  generalize cnt n = c at *
  have s0 : 0 ≤ c * c := Int.mul_nonneg c0 c0
  have s1 : c * c ≤ 4611686018427387904 := Int.le_trans (Int.mul_le_mul c1 c1 c0 (by omega)) (by omega)
  go_enter Try.func17, Try.ntmps17
  go_wp2_with (go_at_call 43; refine (C.out _).mono ?_; rintro e w' ⟨rfl, rfl⟩)
  all_goals (go_ret; exact ⟨ret_int (by omega), rfl⟩)
theorem wordsR_is (w : World) (n : Int) : Calls Try.prog 18 #[.int .i64 n] w fun e w' => e = .returned (.int .i64 ((cnt n + 31) / 32)) ∧ w' = w := by
  have C : Hid (∀ W, Calls Try.prog 44 #[.int .i64 n] W fun e w' => e = .returned (.int .i64 (cnt n)) ∧ w' = W) := fun W => within_is W n
  obtain ⟨c0, c1⟩ := cnt_range n
  generalize cnt n = c at *
  go_enter Try.func18, Try.ntmps18
  go_wp2_with (go_at_call 44; refine (C.out _).mono ?_; rintro e w' ⟨rfl, rfl⟩)
  all_goals (go_ret; exact ⟨ret_int (by omega), rfl⟩)
theorem copyR_is (w : World) (n : Int) : Calls Try.prog 19 #[.int .i64 n] w fun e w' => e = .returned (.int .u64 (3 * ((cnt n + 31) / 32))) ∧ w' = w := by
  have C : Hid (∀ W, Calls Try.prog 18 #[.int .i64 n] W fun e w' => e = .returned (.int .i64 ((cnt n + 31) / 32)) ∧ w' = W) := fun W => wordsR_is W n
  obtain ⟨c0, c1⟩ := cnt_range n
  generalize cnt n = c at *
  have d0 : 0 ≤ (c + 31) / 32 := by omega
  have d1 : (c + 31) / 32 ≤ 67108864 := by omega
  generalize (c + 31) / 32 = d at *
  go_enter Try.func19, Try.ntmps19
  go_wp2_with (go_at_call 18; refine (C.out _).mono ?_; rintro e w' ⟨rfl, rfl⟩)
  all_goals (go_ret; exact ⟨ret_int (by omega), rfl⟩)
theorem hashR_is (w : World) (n : Int) : Calls Try.prog 20 #[.int .i64 n] w fun e w' => e = .returned (.int .u64 (6 * ((cnt n + 31) / 32))) ∧ w' = w := by
  have C : Hid (∀ W, Calls Try.prog 18 #[.int .i64 n] W fun e w' => e = .returned (.int .i64 ((cnt n + 31) / 32)) ∧ w' = W) := fun W => wordsR_is W n
  obtain ⟨c0, c1⟩ := cnt_range n
  generalize cnt n = c at *
  have d0 : 0 ≤ (c + 31) / 32 := by omega
  have d1 : (c + 31) / 32 ≤ 67108864 := by omega
  generalize (c + 31) / 32 = d at *
  go_enter Try.func20, Try.ntmps20
  go_wp2_with (go_at_call 18; refine (C.out _).mono ?_; rintro e w' ⟨rfl, rfl⟩)
  all_goals (go_ret; exact ⟨ret_int (by omega), rfl⟩)
theorem logR_is (w : World) (n : Int) : Calls Try.prog 21 #[.int .i64 n] w fun e w' => e = .returned (.int .u64 (8 * cnt n)) ∧ w' = w := by
  have C : Hid (∀ W, Calls Try.prog 44 #[.int .i64 n] W fun e w' => e = .returned (.int .i64 (cnt n)) ∧ w' = W) := fun W => within_is W n
  obtain ⟨c0, c1⟩ := cnt_range n
  generalize cnt n = c at *
  go_enter Try.func21, Try.ntmps21
  go_wp2_with (go_at_call 44; refine (C.out _).mono ?_; rintro e w' ⟨rfl, rfl⟩)
  all_goals (go_ret; exact ⟨ret_int (by omega), rfl⟩)
theorem deployR_is (w : World) (n : Int) : Calls Try.prog 22 #[.int .i64 n] w fun e w' => e = .returned (.int .u64 (200 * cnt n)) ∧ w' = w := by
  have C : Hid (∀ W, Calls Try.prog 44 #[.int .i64 n] W fun e w' => e = .returned (.int .i64 (cnt n)) ∧ w' = W) := fun W => within_is W n
  obtain ⟨c0, c1⟩ := cnt_range n
  generalize cnt n = c at *
  go_enter Try.func22, Try.ntmps22
  go_wp2_with (go_at_call 44; refine (C.out _).mono ?_; rintro e w' ⟨rfl, rfl⟩)
  all_goals (go_ret; exact ⟨ret_int (by omega), rfl⟩)
theorem memoryR_is (w : World) (n : Int) : Calls Try.prog 23 #[.int .i64 n] w fun e w' => e = .returned (.int .u64 (3 * cnt n + cnt n * cnt n / 512)) ∧ w' = w := by
  have C : Hid (∀ W, Calls Try.prog 44 #[.int .i64 n] W fun e w' => e = .returned (.int .i64 (cnt n)) ∧ w' = W) := fun W => within_is W n
  obtain ⟨c0, c1⟩ := cnt_range n
  generalize cnt n = c at *
  have s0 : 0 ≤ c * c := Int.mul_nonneg c0 c0
  have s1 : c * c ≤ 4611686018427387904 := Int.le_trans (Int.mul_le_mul c1 c1 c0 (by omega)) (by omega)
  go_enter Try.func23, Try.ntmps23
  go_wp2_with (go_at_call 44; refine (C.out _).mono ?_; rintro e w' ⟨rfl, rfl⟩)
  all_goals (go_ret; exact ⟨ret_int (by omega), rfl⟩)
end Go.Proofs.Ytpgjchkfglkgcaa
