/- The document's rows. -/
import Derived.Test.YtcjmbpchdeapiaaDoorRvn
import Derived.Test.YtcjmbpchdeapiaaDoorOpe
namespace Go.Proofs.YtcjmbpchdeapiaaDoor
open Go.RowKit
set_option maxRecDepth 100000
/-- a row as a block -/
def opo (c : Nat) : Obj := .cells #[.int .i64 (c : Int), .string (nameT c), .int .i64 (immT c), .int .i64 (inT c), .int .i64 (outT c), .int .i64 (gasT c), .bool (endsT c)] 56
def ozo : Obj := (.cells #[.int .i64 0, .string ⟨#[]⟩, .int .i64 0, .int .i64 0, .int .i64 0, .int .i64 0, .bool false] 56)
set_option maxHeartbeats 1000000 in
theorem numbers_no_m (c : Int) (h : c ≤ 0) (w : World) : Calls Tryd.prog 35 #[.int .i64 c] w fun e w' => e = .returned (.tuple #[opz, .bool false]) ∧ w' = w.alloc ozo := by
  have g1 : ¬ (1 : Int) ≤ c := by omega
  have g2 : c ≤ (7 : Int) := by omega
  have g3 : (c == (1 : Int)) = false := beq_eq_false_iff_ne.2 (by omega)
  have g4 : (c == (3 : Int)) = false := beq_eq_false_iff_ne.2 (by omega)
  have g5 : (c == (8 : Int)) = false := beq_eq_false_iff_ne.2 (by omega)
  have g6 : (c == (9 : Int)) = false := beq_eq_false_iff_ne.2 (by omega)
  have g7 : (c == (10 : Int)) = false := beq_eq_false_iff_ne.2 (by omega)
  have g8 : (c == (11 : Int)) = false := beq_eq_false_iff_ne.2 (by omega)
  have g9 : ¬ (16 : Int) ≤ c := by omega
  have g10 : c ≤ (29 : Int) := by omega
  have g11 : (c == (21 : Int)) = false := beq_eq_false_iff_ne.2 (by omega)
  have g12 : (c == (25 : Int)) = false := beq_eq_false_iff_ne.2 (by omega)
  have g13 : (c == (30 : Int)) = false := beq_eq_false_iff_ne.2 (by omega)
  have g14 : (c == (32 : Int)) = false := beq_eq_false_iff_ne.2 (by omega)
  clear h
  go_enter Tryd.func35, Tryd.ntmps35
  go_wp2
  refine ⟨rfl, _, (results_cell_tmp rfl _ _ _).trans ?_, rfl, rfl⟩
  go_simp
  rfl
set_option maxHeartbeats 1000000 in
theorem numbers_no_12 (c : Int) (h : 12 ≤ c ∧ c ≤ 15) (w : World) : Calls Tryd.prog 35 #[.int .i64 c] w fun e w' => e = .returned (.tuple #[opz, .bool false]) ∧ w' = w.alloc ozo := by
  have g1 : (1 : Int) ≤ c := by omega
  have g2 : ¬ c ≤ (7 : Int) := by omega
  have g3 : (c == (1 : Int)) = false := beq_eq_false_iff_ne.2 (by omega)
  have g4 : (c == (3 : Int)) = false := beq_eq_false_iff_ne.2 (by omega)
  have g5 : (c == (8 : Int)) = false := beq_eq_false_iff_ne.2 (by omega)
  have g6 : (c == (9 : Int)) = false := beq_eq_false_iff_ne.2 (by omega)
  have g7 : (c == (10 : Int)) = false := beq_eq_false_iff_ne.2 (by omega)
  have g8 : (c == (11 : Int)) = false := beq_eq_false_iff_ne.2 (by omega)
  have g9 : ¬ (16 : Int) ≤ c := by omega
  have g10 : c ≤ (29 : Int) := by omega
  have g11 : (c == (21 : Int)) = false := beq_eq_false_iff_ne.2 (by omega)
  have g12 : (c == (25 : Int)) = false := beq_eq_false_iff_ne.2 (by omega)
  have g13 : (c == (30 : Int)) = false := beq_eq_false_iff_ne.2 (by omega)
  have g14 : (c == (32 : Int)) = false := beq_eq_false_iff_ne.2 (by omega)
  clear h
  go_enter Tryd.func35, Tryd.ntmps35
  go_wp2
  refine ⟨rfl, _, (results_cell_tmp rfl _ _ _).trans ?_, rfl, rfl⟩
  go_simp
  rfl
set_option maxHeartbeats 1000000 in
theorem numbers_no_31 (c : Int) (h : 31 ≤ c ∧ c ≤ 31) (w : World) : Calls Tryd.prog 35 #[.int .i64 c] w fun e w' => e = .returned (.tuple #[opz, .bool false]) ∧ w' = w.alloc ozo := by
  obtain rfl : c = 31 := by omega
  clear h
  go_enter Tryd.func35, Tryd.ntmps35
  go_wp2
  refine ⟨rfl, _, (results_cell_tmp rfl _ _ _).trans ?_, rfl, rfl⟩
  go_simp
  rfl
set_option maxHeartbeats 1000000 in
theorem numbers_no_33 (c : Int) (h : 33 ≤ c) (w : World) : Calls Tryd.prog 35 #[.int .i64 c] w fun e w' => e = .returned (.tuple #[opz, .bool false]) ∧ w' = w.alloc ozo := by
  have g1 : (1 : Int) ≤ c := by omega
  have g2 : ¬ c ≤ (7 : Int) := by omega
  have g3 : (c == (1 : Int)) = false := beq_eq_false_iff_ne.2 (by omega)
  have g4 : (c == (3 : Int)) = false := beq_eq_false_iff_ne.2 (by omega)
  have g5 : (c == (8 : Int)) = false := beq_eq_false_iff_ne.2 (by omega)
  have g6 : (c == (9 : Int)) = false := beq_eq_false_iff_ne.2 (by omega)
  have g7 : (c == (10 : Int)) = false := beq_eq_false_iff_ne.2 (by omega)
  have g8 : (c == (11 : Int)) = false := beq_eq_false_iff_ne.2 (by omega)
  have g9 : (16 : Int) ≤ c := by omega
  have g10 : ¬ c ≤ (29 : Int) := by omega
  have g11 : (c == (21 : Int)) = false := beq_eq_false_iff_ne.2 (by omega)
  have g12 : (c == (25 : Int)) = false := beq_eq_false_iff_ne.2 (by omega)
  have g13 : (c == (30 : Int)) = false := beq_eq_false_iff_ne.2 (by omega)
  have g14 : (c == (32 : Int)) = false := beq_eq_false_iff_ne.2 (by omega)
  clear h
  go_enter Tryd.func35, Tryd.ntmps35
  go_wp2
  refine ⟨rfl, _, (results_cell_tmp rfl _ _ _).trans ?_, rfl, rfl⟩
  go_simp
  rfl
theorem numbers_no (c : Int) (h : (c ≤ 0) ∨ (12 ≤ c ∧ c ≤ 15) ∨ (31 ≤ c ∧ c ≤ 31) ∨ (33 ≤ c)) (w : World) : Calls Tryd.prog 35 #[.int .i64 c] w fun e w' => e = .returned (.tuple #[opz, .bool false]) ∧ w' = w.alloc ozo := by
  rcases h with h | h | h | h
  · exact numbers_no_m c h w
  · exact numbers_no_12 c h w
  · exact numbers_no_31 c h w
  · exact numbers_no_33 c h w
set_option maxHeartbeats 1000000 in
theorem around_no_m (c : Int) (h : c ≤ 47) (w : World) : Calls Tryd.prog 36 #[.int .i64 c] w fun e w' => e = .returned (.tuple #[opz, .bool false]) ∧ w' = w.alloc ozo := by
  have g1 : (c == (49 : Int)) = false := beq_eq_false_iff_ne.2 (by omega)
  have g2 : (c == (53 : Int)) = false := beq_eq_false_iff_ne.2 (by omega)
  have g3 : (c == (55 : Int)) = false := beq_eq_false_iff_ne.2 (by omega)
  have g4 : (c == (62 : Int)) = false := beq_eq_false_iff_ne.2 (by omega)
  have g5 : ¬ (48 : Int) ≤ c := by omega
  have g6 : c ≤ (54 : Int) := by omega
  have g7 : (c == (58 : Int)) = false := beq_eq_false_iff_ne.2 (by omega)
  have g8 : (c == (61 : Int)) = false := beq_eq_false_iff_ne.2 (by omega)
  have g9 : (c == (64 : Int)) = false := beq_eq_false_iff_ne.2 (by omega)
  have g10 : (c == (73 : Int)) = false := beq_eq_false_iff_ne.2 (by omega)
  have g11 : ¬ (65 : Int) ≤ c := by omega
  have g12 : c ≤ (74 : Int) := by omega
  have g13 : (c == (71 : Int)) = false := beq_eq_false_iff_ne.2 (by omega)
  clear h
  go_enter Tryd.func36, Tryd.ntmps36
  go_wp2
  refine ⟨rfl, _, (results_cell_tmp rfl _ _ _).trans ?_, rfl, rfl⟩
  go_simp
  rfl
set_option maxHeartbeats 1000000 in
theorem around_no_56 (c : Int) (h : 56 ≤ c ∧ c ≤ 57) (w : World) : Calls Tryd.prog 36 #[.int .i64 c] w fun e w' => e = .returned (.tuple #[opz, .bool false]) ∧ w' = w.alloc ozo := by
  have g1 : (c == (49 : Int)) = false := beq_eq_false_iff_ne.2 (by omega)
  have g2 : (c == (53 : Int)) = false := beq_eq_false_iff_ne.2 (by omega)
  have g3 : (c == (55 : Int)) = false := beq_eq_false_iff_ne.2 (by omega)
  have g4 : (c == (62 : Int)) = false := beq_eq_false_iff_ne.2 (by omega)
  have g5 : (48 : Int) ≤ c := by omega
  have g6 : ¬ c ≤ (54 : Int) := by omega
  have g7 : (c == (58 : Int)) = false := beq_eq_false_iff_ne.2 (by omega)
  have g8 : (c == (61 : Int)) = false := beq_eq_false_iff_ne.2 (by omega)
  have g9 : (c == (64 : Int)) = false := beq_eq_false_iff_ne.2 (by omega)
  have g10 : (c == (73 : Int)) = false := beq_eq_false_iff_ne.2 (by omega)
  have g11 : ¬ (65 : Int) ≤ c := by omega
  have g12 : c ≤ (74 : Int) := by omega
  have g13 : (c == (71 : Int)) = false := beq_eq_false_iff_ne.2 (by omega)
  clear h
  go_enter Tryd.func36, Tryd.ntmps36
  go_wp2
  refine ⟨rfl, _, (results_cell_tmp rfl _ _ _).trans ?_, rfl, rfl⟩
  go_simp
  rfl
set_option maxHeartbeats 1000000 in
theorem around_no_59 (c : Int) (h : 59 ≤ c ∧ c ≤ 60) (w : World) : Calls Tryd.prog 36 #[.int .i64 c] w fun e w' => e = .returned (.tuple #[opz, .bool false]) ∧ w' = w.alloc ozo := by
  have g1 : (c == (49 : Int)) = false := beq_eq_false_iff_ne.2 (by omega)
  have g2 : (c == (53 : Int)) = false := beq_eq_false_iff_ne.2 (by omega)
  have g3 : (c == (55 : Int)) = false := beq_eq_false_iff_ne.2 (by omega)
  have g4 : (c == (62 : Int)) = false := beq_eq_false_iff_ne.2 (by omega)
  have g5 : (48 : Int) ≤ c := by omega
  have g6 : ¬ c ≤ (54 : Int) := by omega
  have g7 : (c == (58 : Int)) = false := beq_eq_false_iff_ne.2 (by omega)
  have g8 : (c == (61 : Int)) = false := beq_eq_false_iff_ne.2 (by omega)
  have g9 : (c == (64 : Int)) = false := beq_eq_false_iff_ne.2 (by omega)
  have g10 : (c == (73 : Int)) = false := beq_eq_false_iff_ne.2 (by omega)
  have g11 : ¬ (65 : Int) ≤ c := by omega
  have g12 : c ≤ (74 : Int) := by omega
  have g13 : (c == (71 : Int)) = false := beq_eq_false_iff_ne.2 (by omega)
  clear h
  go_enter Tryd.func36, Tryd.ntmps36
  go_wp2
  refine ⟨rfl, _, (results_cell_tmp rfl _ _ _).trans ?_, rfl, rfl⟩
  go_simp
  rfl
set_option maxHeartbeats 1000000 in
theorem around_no_63 (c : Int) (h : 63 ≤ c ∧ c ≤ 63) (w : World) : Calls Tryd.prog 36 #[.int .i64 c] w fun e w' => e = .returned (.tuple #[opz, .bool false]) ∧ w' = w.alloc ozo := by
  obtain rfl : c = 63 := by omega
  clear h
  go_enter Tryd.func36, Tryd.ntmps36
  go_wp2
  refine ⟨rfl, _, (results_cell_tmp rfl _ _ _).trans ?_, rfl, rfl⟩
  go_simp
  rfl
set_option maxHeartbeats 1000000 in
theorem around_no_75 (c : Int) (h : 75 ≤ c) (w : World) : Calls Tryd.prog 36 #[.int .i64 c] w fun e w' => e = .returned (.tuple #[opz, .bool false]) ∧ w' = w.alloc ozo := by
  have g1 : (c == (49 : Int)) = false := beq_eq_false_iff_ne.2 (by omega)
  have g2 : (c == (53 : Int)) = false := beq_eq_false_iff_ne.2 (by omega)
  have g3 : (c == (55 : Int)) = false := beq_eq_false_iff_ne.2 (by omega)
  have g4 : (c == (62 : Int)) = false := beq_eq_false_iff_ne.2 (by omega)
  have g5 : (48 : Int) ≤ c := by omega
  have g6 : ¬ c ≤ (54 : Int) := by omega
  have g7 : (c == (58 : Int)) = false := beq_eq_false_iff_ne.2 (by omega)
  have g8 : (c == (61 : Int)) = false := beq_eq_false_iff_ne.2 (by omega)
  have g9 : (c == (64 : Int)) = false := beq_eq_false_iff_ne.2 (by omega)
  have g10 : (c == (73 : Int)) = false := beq_eq_false_iff_ne.2 (by omega)
  have g11 : (65 : Int) ≤ c := by omega
  have g12 : ¬ c ≤ (74 : Int) := by omega
  have g13 : (c == (71 : Int)) = false := beq_eq_false_iff_ne.2 (by omega)
  clear h
  go_enter Tryd.func36, Tryd.ntmps36
  go_wp2
  refine ⟨rfl, _, (results_cell_tmp rfl _ _ _).trans ?_, rfl, rfl⟩
  go_simp
  rfl
theorem around_no (c : Int) (h : (c ≤ 47) ∨ (56 ≤ c ∧ c ≤ 57) ∨ (59 ≤ c ∧ c ≤ 60) ∨ (63 ≤ c ∧ c ≤ 63) ∨ (75 ≤ c)) (w : World) : Calls Tryd.prog 36 #[.int .i64 c] w fun e w' => e = .returned (.tuple #[opz, .bool false]) ∧ w' = w.alloc ozo := by
  rcases h with h | h | h | h | h
  · exact around_no_m c h w
  · exact around_no_56 c h w
  · exact around_no_59 c h w
  · exact around_no_63 c h w
  · exact around_no_75 c h w
set_option maxHeartbeats 1000000 in
theorem kept_no_m (c : Int) (h : c ≤ 79) (w : World) : Calls Tryd.prog 37 #[.int .i64 c] w fun e w' => e = .returned (.tuple #[opz, .bool false]) ∧ w' = w.alloc ozo := by
  have g1 : (c == (80 : Int)) = false := beq_eq_false_iff_ne.2 (by omega)
  have g2 : (c == (81 : Int)) = false := beq_eq_false_iff_ne.2 (by omega)
  have g3 : (c == (82 : Int)) = false := beq_eq_false_iff_ne.2 (by omega)
  have g4 : (c == (83 : Int)) = false := beq_eq_false_iff_ne.2 (by omega)
  have g5 : (c == (84 : Int)) = false := beq_eq_false_iff_ne.2 (by omega)
  have g6 : (c == (92 : Int)) = false := beq_eq_false_iff_ne.2 (by omega)
  have g7 : (c == (85 : Int)) = false := beq_eq_false_iff_ne.2 (by omega)
  have g8 : (c == (93 : Int)) = false := beq_eq_false_iff_ne.2 (by omega)
  have g9 : (c == (89 : Int)) = false := beq_eq_false_iff_ne.2 (by omega)
  have g10 : (c == (91 : Int)) = false := beq_eq_false_iff_ne.2 (by omega)
  have g11 : (c == (94 : Int)) = false := beq_eq_false_iff_ne.2 (by omega)
  have g12 : (c == (95 : Int)) = false := beq_eq_false_iff_ne.2 (by omega)
  have g13 : ¬ (96 : Int) ≤ c := by omega
  have g14 : c ≤ (127 : Int) := by omega
  have g15 : ¬ (128 : Int) ≤ c := by omega
  have g16 : c ≤ (143 : Int) := by omega
  have g17 : ¬ (144 : Int) ≤ c := by omega
  have g18 : c ≤ (159 : Int) := by omega
  have g19 : ¬ (160 : Int) ≤ c := by omega
  have g20 : c ≤ (164 : Int) := by omega
  clear h
  go_enter Tryd.func37, Tryd.ntmps37
  go_wp2
  refine ⟨rfl, _, (results_cell_tmp rfl _ _ _).trans ?_, rfl, rfl⟩
  go_simp
  rfl
set_option maxHeartbeats 1000000 in
theorem kept_no_86 (c : Int) (h : 86 ≤ c ∧ c ≤ 88) (w : World) : Calls Tryd.prog 37 #[.int .i64 c] w fun e w' => e = .returned (.tuple #[opz, .bool false]) ∧ w' = w.alloc ozo := by
  have g1 : (c == (80 : Int)) = false := beq_eq_false_iff_ne.2 (by omega)
  have g2 : (c == (81 : Int)) = false := beq_eq_false_iff_ne.2 (by omega)
  have g3 : (c == (82 : Int)) = false := beq_eq_false_iff_ne.2 (by omega)
  have g4 : (c == (83 : Int)) = false := beq_eq_false_iff_ne.2 (by omega)
  have g5 : (c == (84 : Int)) = false := beq_eq_false_iff_ne.2 (by omega)
  have g6 : (c == (92 : Int)) = false := beq_eq_false_iff_ne.2 (by omega)
  have g7 : (c == (85 : Int)) = false := beq_eq_false_iff_ne.2 (by omega)
  have g8 : (c == (93 : Int)) = false := beq_eq_false_iff_ne.2 (by omega)
  have g9 : (c == (89 : Int)) = false := beq_eq_false_iff_ne.2 (by omega)
  have g10 : (c == (91 : Int)) = false := beq_eq_false_iff_ne.2 (by omega)
  have g11 : (c == (94 : Int)) = false := beq_eq_false_iff_ne.2 (by omega)
  have g12 : (c == (95 : Int)) = false := beq_eq_false_iff_ne.2 (by omega)
  have g13 : ¬ (96 : Int) ≤ c := by omega
  have g14 : c ≤ (127 : Int) := by omega
  have g15 : ¬ (128 : Int) ≤ c := by omega
  have g16 : c ≤ (143 : Int) := by omega
  have g17 : ¬ (144 : Int) ≤ c := by omega
  have g18 : c ≤ (159 : Int) := by omega
  have g19 : ¬ (160 : Int) ≤ c := by omega
  have g20 : c ≤ (164 : Int) := by omega
  clear h
  go_enter Tryd.func37, Tryd.ntmps37
  go_wp2
  refine ⟨rfl, _, (results_cell_tmp rfl _ _ _).trans ?_, rfl, rfl⟩
  go_simp
  rfl
set_option maxHeartbeats 1000000 in
theorem kept_no_90 (c : Int) (h : 90 ≤ c ∧ c ≤ 90) (w : World) : Calls Tryd.prog 37 #[.int .i64 c] w fun e w' => e = .returned (.tuple #[opz, .bool false]) ∧ w' = w.alloc ozo := by
  obtain rfl : c = 90 := by omega
  clear h
  go_enter Tryd.func37, Tryd.ntmps37
  go_wp2
  refine ⟨rfl, _, (results_cell_tmp rfl _ _ _).trans ?_, rfl, rfl⟩
  go_simp
  rfl
set_option maxHeartbeats 1000000 in
theorem kept_no_165 (c : Int) (h : 165 ≤ c) (w : World) : Calls Tryd.prog 37 #[.int .i64 c] w fun e w' => e = .returned (.tuple #[opz, .bool false]) ∧ w' = w.alloc ozo := by
  have g1 : (c == (80 : Int)) = false := beq_eq_false_iff_ne.2 (by omega)
  have g2 : (c == (81 : Int)) = false := beq_eq_false_iff_ne.2 (by omega)
  have g3 : (c == (82 : Int)) = false := beq_eq_false_iff_ne.2 (by omega)
  have g4 : (c == (83 : Int)) = false := beq_eq_false_iff_ne.2 (by omega)
  have g5 : (c == (84 : Int)) = false := beq_eq_false_iff_ne.2 (by omega)
  have g6 : (c == (92 : Int)) = false := beq_eq_false_iff_ne.2 (by omega)
  have g7 : (c == (85 : Int)) = false := beq_eq_false_iff_ne.2 (by omega)
  have g8 : (c == (93 : Int)) = false := beq_eq_false_iff_ne.2 (by omega)
  have g9 : (c == (89 : Int)) = false := beq_eq_false_iff_ne.2 (by omega)
  have g10 : (c == (91 : Int)) = false := beq_eq_false_iff_ne.2 (by omega)
  have g11 : (c == (94 : Int)) = false := beq_eq_false_iff_ne.2 (by omega)
  have g12 : (c == (95 : Int)) = false := beq_eq_false_iff_ne.2 (by omega)
  have g13 : (96 : Int) ≤ c := by omega
  have g14 : ¬ c ≤ (127 : Int) := by omega
  have g15 : (128 : Int) ≤ c := by omega
  have g16 : ¬ c ≤ (143 : Int) := by omega
  have g17 : (144 : Int) ≤ c := by omega
  have g18 : ¬ c ≤ (159 : Int) := by omega
  have g19 : (160 : Int) ≤ c := by omega
  have g20 : ¬ c ≤ (164 : Int) := by omega
  clear h
  go_enter Tryd.func37, Tryd.ntmps37
  go_wp2
  refine ⟨rfl, _, (results_cell_tmp rfl _ _ _).trans ?_, rfl, rfl⟩
  go_simp
  rfl
theorem kept_no (c : Int) (h : (c ≤ 79) ∨ (86 ≤ c ∧ c ≤ 88) ∨ (90 ≤ c ∧ c ≤ 90) ∨ (165 ≤ c)) (w : World) : Calls Tryd.prog 37 #[.int .i64 c] w fun e w' => e = .returned (.tuple #[opz, .bool false]) ∧ w' = w.alloc ozo := by
  rcases h with h | h | h | h
  · exact kept_no_m c h w
  · exact kept_no_86 c h w
  · exact kept_no_90 c h w
  · exact kept_no_165 c h w
set_option maxHeartbeats 1000000 in
theorem ways_no_m (c : Int) (h : c ≤ -1) (w : World) : Calls Tryd.prog 38 #[.int .i64 c] w fun e w' => e = .returned (.tuple #[opz, .bool false]) ∧ w' = w.alloc ozo := by
  have g1 : (c == (0 : Int)) = false := beq_eq_false_iff_ne.2 (by omega)
  have g2 : (c == (208 : Int)) = false := beq_eq_false_iff_ne.2 (by omega)
  have g3 : (c == (209 : Int)) = false := beq_eq_false_iff_ne.2 (by omega)
  have g4 : (c == (210 : Int)) = false := beq_eq_false_iff_ne.2 (by omega)
  have g5 : (c == (211 : Int)) = false := beq_eq_false_iff_ne.2 (by omega)
  have g6 : (c == (224 : Int)) = false := beq_eq_false_iff_ne.2 (by omega)
  have g7 : (c == (225 : Int)) = false := beq_eq_false_iff_ne.2 (by omega)
  have g8 : (c == (226 : Int)) = false := beq_eq_false_iff_ne.2 (by omega)
  have g9 : (c == (227 : Int)) = false := beq_eq_false_iff_ne.2 (by omega)
  have g10 : (c == (228 : Int)) = false := beq_eq_false_iff_ne.2 (by omega)
  have g11 : (c == (229 : Int)) = false := beq_eq_false_iff_ne.2 (by omega)
  have g12 : (c == (230 : Int)) = false := beq_eq_false_iff_ne.2 (by omega)
  have g13 : (c == (231 : Int)) = false := beq_eq_false_iff_ne.2 (by omega)
  have g14 : (c == (232 : Int)) = false := beq_eq_false_iff_ne.2 (by omega)
  have g15 : (c == (236 : Int)) = false := beq_eq_false_iff_ne.2 (by omega)
  have g16 : (c == (238 : Int)) = false := beq_eq_false_iff_ne.2 (by omega)
  have g17 : (c == (247 : Int)) = false := beq_eq_false_iff_ne.2 (by omega)
  have g18 : (c == (248 : Int)) = false := beq_eq_false_iff_ne.2 (by omega)
  have g19 : (c == (249 : Int)) = false := beq_eq_false_iff_ne.2 (by omega)
  have g20 : (c == (251 : Int)) = false := beq_eq_false_iff_ne.2 (by omega)
  have g21 : (c == (243 : Int)) = false := beq_eq_false_iff_ne.2 (by omega)
  have g22 : (c == (253 : Int)) = false := beq_eq_false_iff_ne.2 (by omega)
  have g23 : (c == (254 : Int)) = false := beq_eq_false_iff_ne.2 (by omega)
  clear h
  go_enter Tryd.func38, Tryd.ntmps38
  go_wp2
  refine ⟨rfl, _, (results_cell_tmp rfl _ _ _).trans ?_, rfl, rfl⟩
  go_simp
  rfl
set_option maxHeartbeats 1000000 in
theorem ways_no_1 (c : Int) (h : 1 ≤ c ∧ c ≤ 207) (w : World) : Calls Tryd.prog 38 #[.int .i64 c] w fun e w' => e = .returned (.tuple #[opz, .bool false]) ∧ w' = w.alloc ozo := by
  have g1 : (c == (0 : Int)) = false := beq_eq_false_iff_ne.2 (by omega)
  have g2 : (c == (208 : Int)) = false := beq_eq_false_iff_ne.2 (by omega)
  have g3 : (c == (209 : Int)) = false := beq_eq_false_iff_ne.2 (by omega)
  have g4 : (c == (210 : Int)) = false := beq_eq_false_iff_ne.2 (by omega)
  have g5 : (c == (211 : Int)) = false := beq_eq_false_iff_ne.2 (by omega)
  have g6 : (c == (224 : Int)) = false := beq_eq_false_iff_ne.2 (by omega)
  have g7 : (c == (225 : Int)) = false := beq_eq_false_iff_ne.2 (by omega)
  have g8 : (c == (226 : Int)) = false := beq_eq_false_iff_ne.2 (by omega)
  have g9 : (c == (227 : Int)) = false := beq_eq_false_iff_ne.2 (by omega)
  have g10 : (c == (228 : Int)) = false := beq_eq_false_iff_ne.2 (by omega)
  have g11 : (c == (229 : Int)) = false := beq_eq_false_iff_ne.2 (by omega)
  have g12 : (c == (230 : Int)) = false := beq_eq_false_iff_ne.2 (by omega)
  have g13 : (c == (231 : Int)) = false := beq_eq_false_iff_ne.2 (by omega)
  have g14 : (c == (232 : Int)) = false := beq_eq_false_iff_ne.2 (by omega)
  have g15 : (c == (236 : Int)) = false := beq_eq_false_iff_ne.2 (by omega)
  have g16 : (c == (238 : Int)) = false := beq_eq_false_iff_ne.2 (by omega)
  have g17 : (c == (247 : Int)) = false := beq_eq_false_iff_ne.2 (by omega)
  have g18 : (c == (248 : Int)) = false := beq_eq_false_iff_ne.2 (by omega)
  have g19 : (c == (249 : Int)) = false := beq_eq_false_iff_ne.2 (by omega)
  have g20 : (c == (251 : Int)) = false := beq_eq_false_iff_ne.2 (by omega)
  have g21 : (c == (243 : Int)) = false := beq_eq_false_iff_ne.2 (by omega)
  have g22 : (c == (253 : Int)) = false := beq_eq_false_iff_ne.2 (by omega)
  have g23 : (c == (254 : Int)) = false := beq_eq_false_iff_ne.2 (by omega)
  clear h
  go_enter Tryd.func38, Tryd.ntmps38
  go_wp2
  refine ⟨rfl, _, (results_cell_tmp rfl _ _ _).trans ?_, rfl, rfl⟩
  go_simp
  rfl
set_option maxHeartbeats 1000000 in
theorem ways_no_212 (c : Int) (h : 212 ≤ c ∧ c ≤ 223) (w : World) : Calls Tryd.prog 38 #[.int .i64 c] w fun e w' => e = .returned (.tuple #[opz, .bool false]) ∧ w' = w.alloc ozo := by
  have g1 : (c == (0 : Int)) = false := beq_eq_false_iff_ne.2 (by omega)
  have g2 : (c == (208 : Int)) = false := beq_eq_false_iff_ne.2 (by omega)
  have g3 : (c == (209 : Int)) = false := beq_eq_false_iff_ne.2 (by omega)
  have g4 : (c == (210 : Int)) = false := beq_eq_false_iff_ne.2 (by omega)
  have g5 : (c == (211 : Int)) = false := beq_eq_false_iff_ne.2 (by omega)
  have g6 : (c == (224 : Int)) = false := beq_eq_false_iff_ne.2 (by omega)
  have g7 : (c == (225 : Int)) = false := beq_eq_false_iff_ne.2 (by omega)
  have g8 : (c == (226 : Int)) = false := beq_eq_false_iff_ne.2 (by omega)
  have g9 : (c == (227 : Int)) = false := beq_eq_false_iff_ne.2 (by omega)
  have g10 : (c == (228 : Int)) = false := beq_eq_false_iff_ne.2 (by omega)
  have g11 : (c == (229 : Int)) = false := beq_eq_false_iff_ne.2 (by omega)
  have g12 : (c == (230 : Int)) = false := beq_eq_false_iff_ne.2 (by omega)
  have g13 : (c == (231 : Int)) = false := beq_eq_false_iff_ne.2 (by omega)
  have g14 : (c == (232 : Int)) = false := beq_eq_false_iff_ne.2 (by omega)
  have g15 : (c == (236 : Int)) = false := beq_eq_false_iff_ne.2 (by omega)
  have g16 : (c == (238 : Int)) = false := beq_eq_false_iff_ne.2 (by omega)
  have g17 : (c == (247 : Int)) = false := beq_eq_false_iff_ne.2 (by omega)
  have g18 : (c == (248 : Int)) = false := beq_eq_false_iff_ne.2 (by omega)
  have g19 : (c == (249 : Int)) = false := beq_eq_false_iff_ne.2 (by omega)
  have g20 : (c == (251 : Int)) = false := beq_eq_false_iff_ne.2 (by omega)
  have g21 : (c == (243 : Int)) = false := beq_eq_false_iff_ne.2 (by omega)
  have g22 : (c == (253 : Int)) = false := beq_eq_false_iff_ne.2 (by omega)
  have g23 : (c == (254 : Int)) = false := beq_eq_false_iff_ne.2 (by omega)
  clear h
  go_enter Tryd.func38, Tryd.ntmps38
  go_wp2
  refine ⟨rfl, _, (results_cell_tmp rfl _ _ _).trans ?_, rfl, rfl⟩
  go_simp
  rfl
set_option maxHeartbeats 1000000 in
theorem ways_no_233 (c : Int) (h : 233 ≤ c ∧ c ≤ 235) (w : World) : Calls Tryd.prog 38 #[.int .i64 c] w fun e w' => e = .returned (.tuple #[opz, .bool false]) ∧ w' = w.alloc ozo := by
  have g1 : (c == (0 : Int)) = false := beq_eq_false_iff_ne.2 (by omega)
  have g2 : (c == (208 : Int)) = false := beq_eq_false_iff_ne.2 (by omega)
  have g3 : (c == (209 : Int)) = false := beq_eq_false_iff_ne.2 (by omega)
  have g4 : (c == (210 : Int)) = false := beq_eq_false_iff_ne.2 (by omega)
  have g5 : (c == (211 : Int)) = false := beq_eq_false_iff_ne.2 (by omega)
  have g6 : (c == (224 : Int)) = false := beq_eq_false_iff_ne.2 (by omega)
  have g7 : (c == (225 : Int)) = false := beq_eq_false_iff_ne.2 (by omega)
  have g8 : (c == (226 : Int)) = false := beq_eq_false_iff_ne.2 (by omega)
  have g9 : (c == (227 : Int)) = false := beq_eq_false_iff_ne.2 (by omega)
  have g10 : (c == (228 : Int)) = false := beq_eq_false_iff_ne.2 (by omega)
  have g11 : (c == (229 : Int)) = false := beq_eq_false_iff_ne.2 (by omega)
  have g12 : (c == (230 : Int)) = false := beq_eq_false_iff_ne.2 (by omega)
  have g13 : (c == (231 : Int)) = false := beq_eq_false_iff_ne.2 (by omega)
  have g14 : (c == (232 : Int)) = false := beq_eq_false_iff_ne.2 (by omega)
  have g15 : (c == (236 : Int)) = false := beq_eq_false_iff_ne.2 (by omega)
  have g16 : (c == (238 : Int)) = false := beq_eq_false_iff_ne.2 (by omega)
  have g17 : (c == (247 : Int)) = false := beq_eq_false_iff_ne.2 (by omega)
  have g18 : (c == (248 : Int)) = false := beq_eq_false_iff_ne.2 (by omega)
  have g19 : (c == (249 : Int)) = false := beq_eq_false_iff_ne.2 (by omega)
  have g20 : (c == (251 : Int)) = false := beq_eq_false_iff_ne.2 (by omega)
  have g21 : (c == (243 : Int)) = false := beq_eq_false_iff_ne.2 (by omega)
  have g22 : (c == (253 : Int)) = false := beq_eq_false_iff_ne.2 (by omega)
  have g23 : (c == (254 : Int)) = false := beq_eq_false_iff_ne.2 (by omega)
  clear h
  go_enter Tryd.func38, Tryd.ntmps38
  go_wp2
  refine ⟨rfl, _, (results_cell_tmp rfl _ _ _).trans ?_, rfl, rfl⟩
  go_simp
  rfl
set_option maxHeartbeats 1000000 in
theorem ways_no_237 (c : Int) (h : 237 ≤ c ∧ c ≤ 237) (w : World) : Calls Tryd.prog 38 #[.int .i64 c] w fun e w' => e = .returned (.tuple #[opz, .bool false]) ∧ w' = w.alloc ozo := by
  obtain rfl : c = 237 := by omega
  clear h
  go_enter Tryd.func38, Tryd.ntmps38
  go_wp2
  refine ⟨rfl, _, (results_cell_tmp rfl _ _ _).trans ?_, rfl, rfl⟩
  go_simp
  rfl
set_option maxHeartbeats 1000000 in
theorem ways_no_239 (c : Int) (h : 239 ≤ c ∧ c ≤ 242) (w : World) : Calls Tryd.prog 38 #[.int .i64 c] w fun e w' => e = .returned (.tuple #[opz, .bool false]) ∧ w' = w.alloc ozo := by
  have g1 : (c == (0 : Int)) = false := beq_eq_false_iff_ne.2 (by omega)
  have g2 : (c == (208 : Int)) = false := beq_eq_false_iff_ne.2 (by omega)
  have g3 : (c == (209 : Int)) = false := beq_eq_false_iff_ne.2 (by omega)
  have g4 : (c == (210 : Int)) = false := beq_eq_false_iff_ne.2 (by omega)
  have g5 : (c == (211 : Int)) = false := beq_eq_false_iff_ne.2 (by omega)
  have g6 : (c == (224 : Int)) = false := beq_eq_false_iff_ne.2 (by omega)
  have g7 : (c == (225 : Int)) = false := beq_eq_false_iff_ne.2 (by omega)
  have g8 : (c == (226 : Int)) = false := beq_eq_false_iff_ne.2 (by omega)
  have g9 : (c == (227 : Int)) = false := beq_eq_false_iff_ne.2 (by omega)
  have g10 : (c == (228 : Int)) = false := beq_eq_false_iff_ne.2 (by omega)
  have g11 : (c == (229 : Int)) = false := beq_eq_false_iff_ne.2 (by omega)
  have g12 : (c == (230 : Int)) = false := beq_eq_false_iff_ne.2 (by omega)
  have g13 : (c == (231 : Int)) = false := beq_eq_false_iff_ne.2 (by omega)
  have g14 : (c == (232 : Int)) = false := beq_eq_false_iff_ne.2 (by omega)
  have g15 : (c == (236 : Int)) = false := beq_eq_false_iff_ne.2 (by omega)
  have g16 : (c == (238 : Int)) = false := beq_eq_false_iff_ne.2 (by omega)
  have g17 : (c == (247 : Int)) = false := beq_eq_false_iff_ne.2 (by omega)
  have g18 : (c == (248 : Int)) = false := beq_eq_false_iff_ne.2 (by omega)
  have g19 : (c == (249 : Int)) = false := beq_eq_false_iff_ne.2 (by omega)
  have g20 : (c == (251 : Int)) = false := beq_eq_false_iff_ne.2 (by omega)
  have g21 : (c == (243 : Int)) = false := beq_eq_false_iff_ne.2 (by omega)
  have g22 : (c == (253 : Int)) = false := beq_eq_false_iff_ne.2 (by omega)
  have g23 : (c == (254 : Int)) = false := beq_eq_false_iff_ne.2 (by omega)
  clear h
  go_enter Tryd.func38, Tryd.ntmps38
  go_wp2
  refine ⟨rfl, _, (results_cell_tmp rfl _ _ _).trans ?_, rfl, rfl⟩
  go_simp
  rfl
set_option maxHeartbeats 1000000 in
theorem ways_no_244 (c : Int) (h : 244 ≤ c ∧ c ≤ 246) (w : World) : Calls Tryd.prog 38 #[.int .i64 c] w fun e w' => e = .returned (.tuple #[opz, .bool false]) ∧ w' = w.alloc ozo := by
  have g1 : (c == (0 : Int)) = false := beq_eq_false_iff_ne.2 (by omega)
  have g2 : (c == (208 : Int)) = false := beq_eq_false_iff_ne.2 (by omega)
  have g3 : (c == (209 : Int)) = false := beq_eq_false_iff_ne.2 (by omega)
  have g4 : (c == (210 : Int)) = false := beq_eq_false_iff_ne.2 (by omega)
  have g5 : (c == (211 : Int)) = false := beq_eq_false_iff_ne.2 (by omega)
  have g6 : (c == (224 : Int)) = false := beq_eq_false_iff_ne.2 (by omega)
  have g7 : (c == (225 : Int)) = false := beq_eq_false_iff_ne.2 (by omega)
  have g8 : (c == (226 : Int)) = false := beq_eq_false_iff_ne.2 (by omega)
  have g9 : (c == (227 : Int)) = false := beq_eq_false_iff_ne.2 (by omega)
  have g10 : (c == (228 : Int)) = false := beq_eq_false_iff_ne.2 (by omega)
  have g11 : (c == (229 : Int)) = false := beq_eq_false_iff_ne.2 (by omega)
  have g12 : (c == (230 : Int)) = false := beq_eq_false_iff_ne.2 (by omega)
  have g13 : (c == (231 : Int)) = false := beq_eq_false_iff_ne.2 (by omega)
  have g14 : (c == (232 : Int)) = false := beq_eq_false_iff_ne.2 (by omega)
  have g15 : (c == (236 : Int)) = false := beq_eq_false_iff_ne.2 (by omega)
  have g16 : (c == (238 : Int)) = false := beq_eq_false_iff_ne.2 (by omega)
  have g17 : (c == (247 : Int)) = false := beq_eq_false_iff_ne.2 (by omega)
  have g18 : (c == (248 : Int)) = false := beq_eq_false_iff_ne.2 (by omega)
  have g19 : (c == (249 : Int)) = false := beq_eq_false_iff_ne.2 (by omega)
  have g20 : (c == (251 : Int)) = false := beq_eq_false_iff_ne.2 (by omega)
  have g21 : (c == (243 : Int)) = false := beq_eq_false_iff_ne.2 (by omega)
  have g22 : (c == (253 : Int)) = false := beq_eq_false_iff_ne.2 (by omega)
  have g23 : (c == (254 : Int)) = false := beq_eq_false_iff_ne.2 (by omega)
  clear h
  go_enter Tryd.func38, Tryd.ntmps38
  go_wp2
  refine ⟨rfl, _, (results_cell_tmp rfl _ _ _).trans ?_, rfl, rfl⟩
  go_simp
  rfl
set_option maxHeartbeats 1000000 in
theorem ways_no_250 (c : Int) (h : 250 ≤ c ∧ c ≤ 250) (w : World) : Calls Tryd.prog 38 #[.int .i64 c] w fun e w' => e = .returned (.tuple #[opz, .bool false]) ∧ w' = w.alloc ozo := by
  obtain rfl : c = 250 := by omega
  clear h
  go_enter Tryd.func38, Tryd.ntmps38
  go_wp2
  refine ⟨rfl, _, (results_cell_tmp rfl _ _ _).trans ?_, rfl, rfl⟩
  go_simp
  rfl
set_option maxHeartbeats 1000000 in
theorem ways_no_252 (c : Int) (h : 252 ≤ c ∧ c ≤ 252) (w : World) : Calls Tryd.prog 38 #[.int .i64 c] w fun e w' => e = .returned (.tuple #[opz, .bool false]) ∧ w' = w.alloc ozo := by
  obtain rfl : c = 252 := by omega
  clear h
  go_enter Tryd.func38, Tryd.ntmps38
  go_wp2
  refine ⟨rfl, _, (results_cell_tmp rfl _ _ _).trans ?_, rfl, rfl⟩
  go_simp
  rfl
set_option maxHeartbeats 1000000 in
theorem ways_no_255 (c : Int) (h : 255 ≤ c) (w : World) : Calls Tryd.prog 38 #[.int .i64 c] w fun e w' => e = .returned (.tuple #[opz, .bool false]) ∧ w' = w.alloc ozo := by
  have g1 : (c == (0 : Int)) = false := beq_eq_false_iff_ne.2 (by omega)
  have g2 : (c == (208 : Int)) = false := beq_eq_false_iff_ne.2 (by omega)
  have g3 : (c == (209 : Int)) = false := beq_eq_false_iff_ne.2 (by omega)
  have g4 : (c == (210 : Int)) = false := beq_eq_false_iff_ne.2 (by omega)
  have g5 : (c == (211 : Int)) = false := beq_eq_false_iff_ne.2 (by omega)
  have g6 : (c == (224 : Int)) = false := beq_eq_false_iff_ne.2 (by omega)
  have g7 : (c == (225 : Int)) = false := beq_eq_false_iff_ne.2 (by omega)
  have g8 : (c == (226 : Int)) = false := beq_eq_false_iff_ne.2 (by omega)
  have g9 : (c == (227 : Int)) = false := beq_eq_false_iff_ne.2 (by omega)
  have g10 : (c == (228 : Int)) = false := beq_eq_false_iff_ne.2 (by omega)
  have g11 : (c == (229 : Int)) = false := beq_eq_false_iff_ne.2 (by omega)
  have g12 : (c == (230 : Int)) = false := beq_eq_false_iff_ne.2 (by omega)
  have g13 : (c == (231 : Int)) = false := beq_eq_false_iff_ne.2 (by omega)
  have g14 : (c == (232 : Int)) = false := beq_eq_false_iff_ne.2 (by omega)
  have g15 : (c == (236 : Int)) = false := beq_eq_false_iff_ne.2 (by omega)
  have g16 : (c == (238 : Int)) = false := beq_eq_false_iff_ne.2 (by omega)
  have g17 : (c == (247 : Int)) = false := beq_eq_false_iff_ne.2 (by omega)
  have g18 : (c == (248 : Int)) = false := beq_eq_false_iff_ne.2 (by omega)
  have g19 : (c == (249 : Int)) = false := beq_eq_false_iff_ne.2 (by omega)
  have g20 : (c == (251 : Int)) = false := beq_eq_false_iff_ne.2 (by omega)
  have g21 : (c == (243 : Int)) = false := beq_eq_false_iff_ne.2 (by omega)
  have g22 : (c == (253 : Int)) = false := beq_eq_false_iff_ne.2 (by omega)
  have g23 : (c == (254 : Int)) = false := beq_eq_false_iff_ne.2 (by omega)
  clear h
  go_enter Tryd.func38, Tryd.ntmps38
  go_wp2
  refine ⟨rfl, _, (results_cell_tmp rfl _ _ _).trans ?_, rfl, rfl⟩
  go_simp
  rfl
theorem ways_no (c : Int) (h : (c ≤ -1) ∨ (1 ≤ c ∧ c ≤ 207) ∨ (212 ≤ c ∧ c ≤ 223) ∨ (233 ≤ c ∧ c ≤ 235) ∨ (237 ≤ c ∧ c ≤ 237) ∨ (239 ≤ c ∧ c ≤ 242) ∨ (244 ≤ c ∧ c ≤ 246) ∨ (250 ≤ c ∧ c ≤ 250) ∨ (252 ≤ c ∧ c ≤ 252) ∨ (255 ≤ c)) (w : World) : Calls Tryd.prog 38 #[.int .i64 c] w fun e w' => e = .returned (.tuple #[opz, .bool false]) ∧ w' = w.alloc ozo := by
  rcases h with h | h | h | h | h | h | h | h | h | h
  · exact ways_no_m c h w
  · exact ways_no_1 c h w
  · exact ways_no_212 c h w
  · exact ways_no_233 c h w
  · exact ways_no_237 c h w
  · exact ways_no_239 c h w
  · exact ways_no_244 c h w
  · exact ways_no_250 c h w
  · exact ways_no_252 c h w
  · exact ways_no_255 c h w
end Go.Proofs.YtcjmbpchdeapiaaDoor
