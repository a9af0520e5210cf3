/- GasBounds: the walk. -/
import Derived.Test.YtpgjchkfglkgcaaUc
namespace Go.Proofs.Ytpgjchkfglkgcaa
open Go.RowKit
set_option maxHeartbeats 40000000 in
set_option maxRecDepth 100000 in
theorem gasBounds_core (w : World) (s t a b r v u x y p q k n m1 m2 D Q g f e e3 dm : Int) (lx ly : Bool) (hst : (¬ t < s ∧ s = a ∧ t = b) ∨ (t < s ∧ s = b ∧ t = a)) (ab : a ≤ b) (a0 : 0 ≤ a) (b1 : b ≤ 18446744073709551615) (r0 : -9223372036854775808 ≤ r) (r1 : r ≤ 9223372036854775807)
    (f1 : x ≤ y) (f2 : lx = true → ly = true) (f3 : ly = true → 2300 ≤ y ∧ y ≤ b ∧ b - y = D ∧ 5000 ≤ D ∧ Q ≤ D ∧ (5000 < D → D ≤ Q) ∧ D ≤ 18446744073709551615) (hQ : b / 64 = Q) (_Q0 : 0 ≤ Q) (_Q1 : Q ≤ 18446744073709551615) (f4 : ly = false → y = 0 ∧ b < 7300) (f5 : p ≤ q ∧ q ≤ b ∧ b - q = Q) (hg : b - a = g) (g0 : 0 ≤ g) (g1 : g ≤ 18446744073709551615) (hf : g / 5 = f) (f0 : 0 ≤ f) (f9 : f ≤ 18446744073709551615) (f6 : k ≤ f ∧ (r < 0 → k = 0) ∧ (0 ≤ r → k ≤ r) ∧ (a < b → n = 0)) (f7 : 0 ≤ r → r ≤ f → k = r) (f8 : 0 ≤ v → v ≤ u → u ≤ 2147483648 → m1 ≤ m2 ∧ m2 - m1 = dm ∧ 0 ≤ dm ∧ dm ≤ 18446744073709551615 ∧ u - v = e ∧ 0 ≤ e ∧ e ≤ 2147483648 ∧ 3 * e = e3 ∧ e3 ≤ dm)
    (P1 : Hid (∀ W, Calls Try.prog 28 #[.int .u64 a] W fun e w' => e = .returned (.tuple #[.int .u64 x, .bool lx]) ∧ w' = W))
    (P2 : Hid (∀ W, Calls Try.prog 28 #[.int .u64 b] W fun e w' => e = .returned (.tuple #[.int .u64 y, .bool ly]) ∧ w' = W))
    (K1 : Hid (∀ W, Calls Try.prog 30 #[.int .u64 a] W fun e w' => e = .returned (.int .u64 p) ∧ w' = W))
    (K2 : Hid (∀ W, Calls Try.prog 30 #[.int .u64 b] W fun e w' => e = .returned (.int .u64 q) ∧ w' = W))
    (B1 : Hid (∀ W, Calls Try.prog 32 #[.int .u64 b, .int .u64 a, .int .i64 r] W fun e w' => e = .returned (.int .u64 k) ∧ w' = W))
    (B2 : Hid (∀ W, Calls Try.prog 32 #[.int .u64 a, .int .u64 b, .int .i64 r] W fun e w' => e = .returned (.int .u64 n) ∧ w' = W))
    (G1 : Hid (∀ W, Calls Try.prog 17 #[.int .i64 v] W fun e w' => e = .returned (.int .u64 m1) ∧ w' = W))
    (G2 : Hid (∀ W, Calls Try.prog 17 #[.int .i64 u] W fun e w' => e = .returned (.int .u64 m2) ∧ w' = W)) : Calls Try.prog 11 #[.int .u64 s, .int .u64 t, .int .i64 r, .int .i64 v, .int .i64 u] w fun e w' => e = .returned (.bool true) ∧ Below w.heap.size w w' := by
  have F2 : Hid (lx = true → ly = true) := f2
  have F3 : Hid _ := f3
  have F4 : Hid _ := f4
  have F5 : Hid _ := f5
  have F6 : Hid _ := f6
  have F7 : Hid _ := f7
  have F8 : Hid _ := f8
  have HST : Hid _ := hst
  have wQ : IntKind.u64.wrap Q = Q := by rw [IntKind.wrap_u64]; omega
  have wg0 : IntKind.u64.wrap g = g := by rw [IntKind.wrap_u64]; omega
  have wf0 : IntKind.u64.wrap f = f := by rw [IntKind.wrap_u64]; omega
  have wr0 : 0 ≤ r → IntKind.u64.wrap r = r := fun h => by rw [IntKind.wrap_u64]; omega
  have WR : Hid _ := wr0
  have hQt : b.tdiv 64 = Q := by rw [Int.tdiv_eq_ediv_of_nonneg (by omega)]; exact hQ
  have hft : g.tdiv 5 = f := by rw [Int.tdiv_eq_ediv_of_nonneg (by omega)]; exact hf
  clear f2 f3 f4 f5 f6 f7 f8 hst wr0
  go_enter Try.func11, Try.ntmps11
  go_upto_if 23 with fail
  go_cut [0, 1] (fun s0 s1 wx => s0 = .int .u64 a ∧ s1 = .int .u64 b ∧ wx = w)
  case first =>
    rcases HST.out with ⟨h1, rfl, rfl⟩ | ⟨h1, rfl, rfl⟩
    · clear HST
      go_wp2
      go_meet
      case rel => exact ⟨rfl, rfl, rfl⟩
    · clear HST
      go_wp2
      go_meet
      case rel => exact ⟨rfl, rfl, rfl⟩
  case rest =>
    obtain ⟨rfl, rfl, hw⟩ := hcut
    have hw2 := hw.symm
    clear hw
    subst hw2
    clear HST
    go_upto_region 4 with (go_at_call 28; refine (P1.out _).mono ?_; rintro e w' ⟨rfl, hw⟩; (have hw2 := hw.symm); clear hw; subst hw2)
    go_upto_region 5 with (go_at_call 28; refine (P2.out _).mono ?_; rintro e w' ⟨rfl, hw⟩; (have hw2 := hw.symm); clear hw; subst hw2)
    have e1 : ¬ y < x := by omega
    clear P1 P2
    go_cut [12, 14, 45] (fun t12 t14 s0 wx => t12 = .bool lx ∧ t14 = .bool ly ∧  s0 = .bool false ∧ wx = w)
    case first =>
      as_aux_lemma =>
        rcases Bool.eq_false_or_eq_true lx with hlx | hlx
        · have hly := F2.out hlx
          go_wp2
          go_meet
          case rel => exact ⟨by first | rfl | (simp only [hlx]; done) | (simp_all; done), by first | rfl | (simp only [hly]; done) | (simp_all; done), by first | rfl | (simp_all; done), rfl⟩
        · go_wp2
          go_meet
          case rel => exact ⟨by first | rfl | (simp only [hlx]; done) | (simp_all; done), by first | rfl | (simp only [hly]; done) | (simp_all; done), by first | rfl | (simp_all; done), rfl⟩
    case rest =>
      obtain ⟨rfl, rfl, rfl, hw⟩ := hcut
      have hw2 := hw.symm
      clear hw
      subst hw2
      go_upto_region 7 with fail
      go_cut [14, 83] (fun t14 s0 wx => t14 = .bool ly ∧  s0 = .bool false ∧ wx = w)
      case first =>
        as_aux_lemma =>
          rcases Bool.eq_false_or_eq_true ly with hly | hly
          · obtain ⟨g1, g2, g3, g4, g5, g6, g7⟩ := F3.out hly
            have wD : IntKind.u64.wrap D = D := by rw [IntKind.wrap_u64]; omega
            have h1 : ¬ y < 2300 := by omega
            have h2 : ¬ b < y := by omega
            have h3 : ¬ D < 5000 := by omega
            have h4 : ¬ D < Q := by omega
            by_cases h5 : 5000 < D
            · have h6 : ¬ Q < D := by have := g6 h5; omega
              clear g1 g2 g4 g5 g6 g7
              go_wp2
              go_meet
              case rel => exact ⟨by first | rfl | (simp only [hly]; done) | (simp_all; done), by first | rfl | (simp_all; done), rfl⟩
            · obtain rfl : D = 5000 := by omega
              clear g1 g2 g4 g5 g6 g7 h5 h3
              go_wp2
              go_meet
              case rel => exact ⟨by first | rfl | (simp only [hly]; done) | (simp_all; done), by first | rfl | (simp_all; done), rfl⟩
          · go_wp2
            go_meet
            case rel => exact ⟨by first | rfl | (simp only [hly]; done) | (simp_all; done), by first | rfl | (simp_all; done), rfl⟩
      case rest =>
        obtain ⟨rfl, rfl, hw⟩ := hcut
        have hw2 := hw.symm
        clear hw
        subst hw2
        go_upto_region 9 with fail
        go_cut [13, 14, 93] (fun t13 t14 s0 wx => t13 = .int .u64 y ∧ t14 = .bool ly ∧  s0 = .bool false ∧ wx = w)
        case first =>
          as_aux_lemma =>
            rcases Bool.eq_false_or_eq_true ly with hly | hly
            · go_wp2
              go_meet
              case rel => exact ⟨by first | rfl | (simp only [g1]; done) | (simp_all; done), by first | rfl | (simp only [hly]; done) | (simp_all; done), by first | rfl | (simp_all; done), rfl⟩
            · obtain ⟨g1, g2⟩ := F4.out hly
              have h1 : ¬ 7300 ≤ b := by omega
              go_wp2
              go_meet
              case rel => exact ⟨by first | rfl | (simp only [g1]; done) | (simp_all; done), by first | rfl | (simp only [hly]; done) | (simp_all; done), by first | rfl | (simp_all; done), rfl⟩
        case rest =>
          obtain ⟨rfl, rfl, rfl, hw⟩ := hcut
          have hw2 := hw.symm
          clear hw
          subst hw2
          go_upto_region 12 with (go_at_call 30; refine (K1.out _).mono ?_; rintro e w' ⟨rfl, hw⟩; (have hw2 := hw.symm); clear hw; subst hw2)
          go_upto_region 13 with (go_at_call 30; refine (K2.out _).mono ?_; rintro e w' ⟨rfl, hw⟩; (have hw2 := hw.symm); clear hw; subst hw2)
          clear K1 K2
          go_cut [113] (fun  s0 wx =>  s0 = .bool false ∧ wx = w)
          case first =>
            as_aux_lemma =>
              obtain ⟨g1, g2, g3⟩ := F5.out
              have h1 : ¬ q < p := by omega
              have h2 : ¬ b < q := by omega
              clear g1 g2
              go_wp2
              go_meet
              case rel => exact ⟨by first | rfl | (simp_all; done), rfl⟩
          case rest =>
            obtain ⟨rfl, hw⟩ := hcut
            have hw2 := hw.symm
            clear hw
            subst hw2
            go_upto_region 16 with (go_at_call 32; refine (B1.out _).mono ?_; rintro e w' ⟨rfl, hw⟩; (have hw2 := hw.symm); clear hw; subst hw2)
            go_upto_region 17 with (go_at_call 32; refine (B2.out _).mono ?_; rintro e w' ⟨rfl, hw⟩; (have hw2 := hw.symm); clear hw; subst hw2)
            clear B1 B2
            go_cut [17, 18, 154] (fun t17 t18 s0 wx => t17 = .int .u64 k ∧ t18 = .int .u64 n ∧  s0 = .bool false ∧ wx = w)
            case first =>
              as_aux_lemma =>
                obtain ⟨g1, g2, g3, g4⟩ := F6.out
                have h1 : ¬ f < k := by omega
                by_cases h2 : r < 0
                · have e2 := g2 h2
                  have h8 : ¬ 0 ≤ r := by omega
                  by_cases h3 : a < b
                  · have e3_ := g4 h3
                    clear g1 g2 g3 g4
                    go_wp2
                    go_meet
                    case rel => exact ⟨by first | rfl | (simp only [e2]; done) | (simp_all; done), by first | rfl | (simp only [e3_]; done) | (simp_all; done), by first | rfl | (simp_all; done), rfl⟩
                  · clear g1 g2 g3 g4
                    go_wp2
                    go_meet
                    case rel => exact ⟨by first | rfl | (simp only [e2]; done) | (simp_all; done), by first | rfl | (simp only [e3_]; done) | (simp_all; done), by first | rfl | (simp_all; done), rfl⟩
                · have e2 : ¬ r < k := by have := g3 (by omega); omega
                  have h7 : 0 ≤ r := by omega
                  have wr1 := WR.out h7
                  by_cases h3 : a < b
                  · have e3_ := g4 h3
                    clear g1 g2 g3 g4
                    go_wp2
                    go_meet
                    case rel => exact ⟨by first | rfl | (simp only [e2]; done) | (simp_all; done), by first | rfl | (simp only [e3_]; done) | (simp_all; done), by first | rfl | (simp_all; done), rfl⟩
                  · clear g1 g2 g3 g4
                    go_wp2
                    go_meet
                    case rel => exact ⟨by first | rfl | (simp only [e2]; done) | (simp_all; done), by first | rfl | (simp only [e3_]; done) | (simp_all; done), by first | rfl | (simp_all; done), rfl⟩
            case rest =>
              obtain ⟨rfl, rfl, rfl, hw⟩ := hcut
              have hw2 := hw.symm
              clear hw
              subst hw2
              go_upto_region 19 with fail
              go_cut [17, 171] (fun t17 s0 wx => t17 = .int .u64 k ∧  s0 = .bool false ∧ wx = w)
              case first =>
                as_aux_lemma =>
                  by_cases h2 : 0 ≤ r
                  · have wr1 := WR.out h2
                    by_cases h3 : r ≤ f
                    · have e2 := F7.out h2 h3
                      go_wp2
                      go_meet
                      case rel => exact ⟨by first | rfl | (simp only [e2]; done) | (simp_all; done), by first | rfl | (simp_all; done), rfl⟩
                    · go_wp2
                      go_meet
                      case rel => exact ⟨by first | rfl | (simp only [e2]; done) | (simp_all; done), by first | rfl | (simp_all; done), rfl⟩
                  · go_wp2
                    go_meet
                    case rel => exact ⟨by first | rfl | (simp only [e2]; done) | (simp_all; done), by first | rfl | (simp_all; done), rfl⟩
              case rest =>
                obtain ⟨rfl, rfl, hw⟩ := hcut
                have hw2 := hw.symm
                clear hw
                subst hw2
                go_upto_region 21 with fail
                by_cases h1 : v < 0
                · refine wp_region_lit ?_
                  refine lst_val (v := .int .i64 v) (by kernel_rfl) ?_ ?_
                  · go_simp
                  simp only [Act.put, List.setIfInBounds_toArray, List.set_cons_zero, List.set_cons_succ]
                  refine lst_val (v := .bool true) (by kernel_rfl) ?_ ?_
                  · go_simp
                  simp only [Act.put, List.setIfInBounds_toArray, List.set_cons_zero, List.set_cons_succ]
                  refine lst_val (v := .bool true) (by kernel_rfl) ?_ ?_
                  · go_simp
                  simp only [Act.put, List.setIfInBounds_toArray, List.set_cons_zero, List.set_cons_succ]
                  refine lst_not (by kernel_rfl) ?_
                  simp only [Act.put, List.setIfInBounds_toArray, List.set_cons_zero, List.set_cons_succ]
                  refine lst_not (by kernel_rfl) ?_
                  simp only [Act.put, List.setIfInBounds_toArray, List.set_cons_zero, List.set_cons_succ]
                  refine lst_not (by kernel_rfl) ?_
                  simp only [Act.put, List.setIfInBounds_toArray, List.set_cons_zero, List.set_cons_succ]
                  refine lst_val (v := .bool true) (by kernel_rfl) ?_ ?_
                  · go_simp
                  simp only [Act.put, List.setIfInBounds_toArray, List.set_cons_zero, List.set_cons_succ]
                  refine lst_val (v := .bool true) (by kernel_rfl) ?_ ?_
                  · go_simp
                  simp only [Act.put, List.setIfInBounds_toArray, List.set_cons_zero, List.set_cons_succ]
                  refine lst_not (by kernel_rfl) ?_
                  simp only [Act.put, List.setIfInBounds_toArray, List.set_cons_zero, List.set_cons_succ]
                  refine lst_not (by kernel_rfl) ?_
                  simp only [Act.put, List.setIfInBounds_toArray, List.set_cons_zero, List.set_cons_succ]
                  refine lst_val (v := .bool true) (by kernel_rfl) ?_ ?_
                  · go_simp
                  simp only [Act.put, List.setIfInBounds_toArray, List.set_cons_zero, List.set_cons_succ]
                  refine wpList_nil ?_
                  go_wp2
                  go_ret
                  exact ⟨rfl, Below.refl _ _⟩
                by_cases h2 : u < v
                · refine wp_region_lit ?_
                  refine lst_val (v := .int .i64 v) (by kernel_rfl) ?_ ?_
                  · go_simp
                  simp only [Act.put, List.setIfInBounds_toArray, List.set_cons_zero, List.set_cons_succ]
                  refine lst_val (v := .bool false) (by kernel_rfl) ?_ ?_
                  · go_simp
                  simp only [Act.put, List.setIfInBounds_toArray, List.set_cons_zero, List.set_cons_succ]
                  refine lst_val (v := .bool false) (by kernel_rfl) ?_ ?_
                  · go_simp
                  simp only [Act.put, List.setIfInBounds_toArray, List.set_cons_zero, List.set_cons_succ]
                  refine lst_val (v := .int .i64 u) (by kernel_rfl) ?_ ?_
                  · go_simp
                  simp only [Act.put, List.setIfInBounds_toArray, List.set_cons_zero, List.set_cons_succ]
                  refine lst_val (v := .int .i64 v) (by kernel_rfl) ?_ ?_
                  · go_simp
                  simp only [Act.put, List.setIfInBounds_toArray, List.set_cons_zero, List.set_cons_succ]
                  refine lst_val (v := .bool true) (by kernel_rfl) ?_ ?_
                  · go_simp
                  simp only [Act.put, List.setIfInBounds_toArray, List.set_cons_zero, List.set_cons_succ]
                  refine lst_val (v := .bool true) (by kernel_rfl) ?_ ?_
                  · go_simp
                  simp only [Act.put, List.setIfInBounds_toArray, List.set_cons_zero, List.set_cons_succ]
                  refine lst_val (v := .bool true) (by kernel_rfl) ?_ ?_
                  · go_simp
                  simp only [Act.put, List.setIfInBounds_toArray, List.set_cons_zero, List.set_cons_succ]
                  refine lst_not (by kernel_rfl) ?_
                  simp only [Act.put, List.setIfInBounds_toArray, List.set_cons_zero, List.set_cons_succ]
                  refine lst_not (by kernel_rfl) ?_
                  simp only [Act.put, List.setIfInBounds_toArray, List.set_cons_zero, List.set_cons_succ]
                  refine lst_val (v := .bool true) (by kernel_rfl) ?_ ?_
                  · go_simp
                  simp only [Act.put, List.setIfInBounds_toArray, List.set_cons_zero, List.set_cons_succ]
                  refine wpList_nil ?_
                  go_wp2
                  go_ret
                  exact ⟨rfl, Below.refl _ _⟩
                by_cases h3 : 2147483648 < u
                · refine wp_region_lit ?_
                  refine lst_val (v := .int .i64 v) (by kernel_rfl) ?_ ?_
                  · go_simp
                  simp only [Act.put, List.setIfInBounds_toArray, List.set_cons_zero, List.set_cons_succ]
                  refine lst_val (v := .bool false) (by kernel_rfl) ?_ ?_
                  · go_simp
                  simp only [Act.put, List.setIfInBounds_toArray, List.set_cons_zero, List.set_cons_succ]
                  refine lst_val (v := .bool false) (by kernel_rfl) ?_ ?_
                  · go_simp
                  simp only [Act.put, List.setIfInBounds_toArray, List.set_cons_zero, List.set_cons_succ]
                  refine lst_val (v := .int .i64 u) (by kernel_rfl) ?_ ?_
                  · go_simp
                  simp only [Act.put, List.setIfInBounds_toArray, List.set_cons_zero, List.set_cons_succ]
                  refine lst_val (v := .int .i64 v) (by kernel_rfl) ?_ ?_
                  · go_simp
                  simp only [Act.put, List.setIfInBounds_toArray, List.set_cons_zero, List.set_cons_succ]
                  refine lst_val (v := .bool false) (by kernel_rfl) ?_ ?_
                  · go_simp
                  simp only [Act.put, List.setIfInBounds_toArray, List.set_cons_zero, List.set_cons_succ]
                  refine lst_val (v := .bool false) (by kernel_rfl) ?_ ?_
                  · go_simp
                  simp only [Act.put, List.setIfInBounds_toArray, List.set_cons_zero, List.set_cons_succ]
                  refine lst_val (v := .bool false) (by kernel_rfl) ?_ ?_
                  · go_simp
                  simp only [Act.put, List.setIfInBounds_toArray, List.set_cons_zero, List.set_cons_succ]
                  refine lst_val (v := .int .i64 u) (by kernel_rfl) ?_ ?_
                  · go_simp
                  simp only [Act.put, List.setIfInBounds_toArray, List.set_cons_zero, List.set_cons_succ]
                  refine lst_val (v := .bool true) (by kernel_rfl) ?_ ?_
                  · go_simp
                  simp only [Act.put, List.setIfInBounds_toArray, List.set_cons_zero, List.set_cons_succ]
                  refine lst_val (v := .bool true) (by kernel_rfl) ?_ ?_
                  · go_simp
                  simp only [Act.put, List.setIfInBounds_toArray, List.set_cons_zero, List.set_cons_succ]
                  refine wpList_nil ?_
                  go_wp2
                  go_ret
                  exact ⟨rfl, Below.refl _ _⟩
                obtain ⟨g1, g2, g3, g4, g5, g6, g7, g8, g9⟩ := F8.out (by omega) (by omega) (by omega)
                refine wp_region_lit ?_
                refine lst_val (v := .int .i64 v) (by kernel_rfl) ?_ ?_
                · go_simp
                simp only [Act.put, List.setIfInBounds_toArray, List.set_cons_zero, List.set_cons_succ]
                refine lst_val (v := .bool false) (by kernel_rfl) ?_ ?_
                · go_simp
                simp only [Act.put, List.setIfInBounds_toArray, List.set_cons_zero, List.set_cons_succ]
                refine lst_val (v := .bool false) (by kernel_rfl) ?_ ?_
                · go_simp
                simp only [Act.put, List.setIfInBounds_toArray, List.set_cons_zero, List.set_cons_succ]
                refine lst_val (v := .int .i64 u) (by kernel_rfl) ?_ ?_
                · go_simp
                simp only [Act.put, List.setIfInBounds_toArray, List.set_cons_zero, List.set_cons_succ]
                refine lst_val (v := .int .i64 v) (by kernel_rfl) ?_ ?_
                · go_simp
                simp only [Act.put, List.setIfInBounds_toArray, List.set_cons_zero, List.set_cons_succ]
                refine lst_val (v := .bool false) (by kernel_rfl) ?_ ?_
                · go_simp
                simp only [Act.put, List.setIfInBounds_toArray, List.set_cons_zero, List.set_cons_succ]
                refine lst_val (v := .bool false) (by kernel_rfl) ?_ ?_
                · go_simp
                simp only [Act.put, List.setIfInBounds_toArray, List.set_cons_zero, List.set_cons_succ]
                refine lst_val (v := .bool false) (by kernel_rfl) ?_ ?_
                · go_simp
                simp only [Act.put, List.setIfInBounds_toArray, List.set_cons_zero, List.set_cons_succ]
                refine lst_val (v := .int .i64 u) (by kernel_rfl) ?_ ?_
                · go_simp
                simp only [Act.put, List.setIfInBounds_toArray, List.set_cons_zero, List.set_cons_succ]
                refine lst_val (v := .bool false) (by kernel_rfl) ?_ ?_
                · go_simp
                simp only [Act.put, List.setIfInBounds_toArray, List.set_cons_zero, List.set_cons_succ]
                refine lst_val (v := .bool false) (by kernel_rfl) ?_ ?_
                · go_simp
                simp only [Act.put, List.setIfInBounds_toArray, List.set_cons_zero, List.set_cons_succ]
                refine wpList_nil ?_
                go_upto_region 24 with (go_at_call 17; refine (G1.out _).mono ?_; rintro e w' ⟨rfl, hw⟩; (have hw2 := hw.symm); clear hw; subst hw2)
                go_upto_region 25 with (go_at_call 17; refine (G2.out _).mono ?_; rintro e w' ⟨rfl, hw⟩; (have hw2 := hw.symm); clear hw; subst hw2)
                have wd : IntKind.u64.wrap dm = dm := by rw [IntKind.wrap_u64]; omega
                have we : IntKind.i64.wrap e = e := by rw [IntKind.wrap_i64]; omega
                have wf : IntKind.i64.wrap e3 = e3 := by rw [IntKind.wrap_i64]; omega
                have wg : IntKind.u64.wrap e3 = e3 := by rw [IntKind.wrap_u64]; omega
                clear g3 g4 g6 g7
                refine wp_region_lit ?_
                refine lst_val (v := .int .u64 m2) (by kernel_rfl) ?_ ?_
                · go_simp
                simp only [Act.put, List.setIfInBounds_toArray, List.set_cons_zero, List.set_cons_succ]
                refine lst_val (v := .int .u64 m1) (by kernel_rfl) ?_ ?_
                · go_simp
                simp only [Act.put, List.setIfInBounds_toArray, List.set_cons_zero, List.set_cons_succ]
                refine lst_val (v := .bool true) (by kernel_rfl) ?_ ?_
                · go_simp
                simp only [Act.put, List.setIfInBounds_toArray, List.set_cons_zero, List.set_cons_succ]
                refine lst_val (v := .bool true) (by kernel_rfl) ?_ ?_
                · go_simp
                simp only [Act.put, List.setIfInBounds_toArray, List.set_cons_zero, List.set_cons_succ]
                refine lst_val (v := .int .u64 m2) (by kernel_rfl) ?_ ?_
                · go_simp
                simp only [Act.put, List.setIfInBounds_toArray, List.set_cons_zero, List.set_cons_succ]
                refine lst_val (v := .int .u64 m1) (by kernel_rfl) ?_ ?_
                · go_simp
                simp only [Act.put, List.setIfInBounds_toArray, List.set_cons_zero, List.set_cons_succ]
                refine lst_val (v := .int .u64 dm) (by kernel_rfl) ?_ ?_
                · (go_simp; try (first | (rw [IntKind.wrap_u64]; omega) | (rw [IntKind.wrap_i64]; omega)))
                simp only [Act.put, List.setIfInBounds_toArray, List.set_cons_zero, List.set_cons_succ]
                refine lst_val (v := .int .i64 u) (by kernel_rfl) ?_ ?_
                · go_simp
                simp only [Act.put, List.setIfInBounds_toArray, List.set_cons_zero, List.set_cons_succ]
                refine lst_val (v := .int .i64 v) (by kernel_rfl) ?_ ?_
                · go_simp
                simp only [Act.put, List.setIfInBounds_toArray, List.set_cons_zero, List.set_cons_succ]
                refine lst_val (v := .int .i64 e) (by kernel_rfl) ?_ ?_
                · (go_simp; try (first | (rw [IntKind.wrap_u64]; omega) | (rw [IntKind.wrap_i64]; omega)))
                simp only [Act.put, List.setIfInBounds_toArray, List.set_cons_zero, List.set_cons_succ]
                refine lst_val (v := .int .i64 e3) (by kernel_rfl) ?_ ?_
                · (go_simp; try (first | (rw [IntKind.wrap_u64]; omega) | (rw [IntKind.wrap_i64]; omega)))
                simp only [Act.put, List.setIfInBounds_toArray, List.set_cons_zero, List.set_cons_succ]
                refine lst_val (v := .int .u64 e3) (by kernel_rfl) ?_ ?_
                · (go_simp; try (first | (rw [IntKind.wrap_u64]; omega) | (rw [IntKind.wrap_i64]; omega)))
                simp only [Act.put, List.setIfInBounds_toArray, List.set_cons_zero, List.set_cons_succ]
                refine lst_val (v := .bool true) (by kernel_rfl) ?_ ?_
                · go_simp
                simp only [Act.put, List.setIfInBounds_toArray, List.set_cons_zero, List.set_cons_succ]
                refine lst_val (v := .bool true) (by kernel_rfl) ?_ ?_
                · go_simp
                simp only [Act.put, List.setIfInBounds_toArray, List.set_cons_zero, List.set_cons_succ]
                refine lst_val (v := .bool true) (by kernel_rfl) ?_ ?_
                · go_simp
                simp only [Act.put, List.setIfInBounds_toArray, List.set_cons_zero, List.set_cons_succ]
                refine wpList_nil ?_
                go_wp2
                go_ret
                exact ⟨rfl, Below.refl _ _⟩
theorem ps_mono {a b : Int} (_ : 0 ≤ a) (ab : a ≤ b) : psn a ≤ psn b ∧ (psd a = true → psd b = true) := by
  unfold psn psd kpt
  constructor
  · repeat' split
    all_goals omega
  · simp only [decide_eq_true_eq]
    repeat' split
    all_goals omega
theorem ps_more {b : Int} (b0 : 0 ≤ b) : (psd b = true → 2300 ≤ psn b ∧ psn b ≤ b ∧ 5000 ≤ b - psn b ∧ b / 64 ≤ b - psn b ∧ (5000 < b - psn b → b - psn b ≤ b / 64)) ∧ (psd b = false → psn b = 0 ∧ b < 7300) := by
  by_cases h : kpt b + 2300 ≤ b
  · rw [(ps_yes h).1, (ps_yes h).2]
    refine ⟨fun _ => ?_, fun e => by cases e⟩
    unfold kpt at *
    split at h <;> (try rw [if_pos (by assumption)]) <;> (try rw [if_neg (by assumption)]) <;> omega
  · rw [(ps_no h).1, (ps_no h).2]
    refine ⟨fun e => (by cases e), fun _ => ⟨rfl, ?_⟩⟩
    unfold kpt at h
    split at h <;> omega
theorem bck_facts (b a r : Int) (ab : a ≤ b) : (bck b a r ≤ (b - a) / 5 ∧ (r < 0 → bck b a r = 0) ∧ (0 ≤ r → bck b a r ≤ r) ∧ (a < b → bck a b r = 0)) ∧ (0 ≤ r → r ≤ (b - a) / 5 → bck b a r = r) := by
  refine ⟨⟨?_, ?_, ?_, ?_⟩, ?_⟩
  · unfold bck; repeat' split
    all_goals omega
  · intro h; exact bck_no (Or.inl h)
  · intro h; unfold bck; repeat' split
    all_goals omega
  · intro h; exact bck_no (Or.inr h)
  · intro h h2; unfold bck; repeat' split
    all_goals omega
theorem mem_facts (v u : Int) (h : 0 ≤ v) (k : v ≤ u) (l : u ≤ 2147483648) : 0 ≤ 3 * cnt v + cnt v * cnt v / 512 ∧ 3 * cnt v + cnt v * cnt v / 512 ≤ 3 * cnt u + cnt u * cnt u / 512 ∧ 3 * cnt u + cnt u * cnt u / 512 ≤ 18446744073709551615 ∧ 3 * (u - v) ≤ 3 * cnt u + cnt u * cnt u / 512 - (3 * cnt v + cnt v * cnt v / 512) := by
  rw [cnt_mid h (by omega), cnt_mid (by omega) l]
  have s0 : 0 ≤ v * v := Int.mul_nonneg h h
  have s1 : v * v ≤ u * u := Int.mul_le_mul k k h (by omega)
  have s2 : u * u ≤ 4611686018427387904 := Int.le_trans (Int.mul_le_mul l l (by omega) (by omega)) (by omega)
  omega
theorem gasBounds_walk (w : World) (s t r v u : Int) (hs : N64 s) (ht : N64 t) (hr : I64 r) (hv : I64 v) (hu : I64 u) : Calls Try.prog 11 #[.int .u64 s, .int .u64 t, .int .i64 r, .int .i64 v, .int .i64 u] w fun e w' => e = .returned (.bool true) ∧ Below w.heap.size w w' := by
  obtain ⟨a, b, hst, ab, ha, hb⟩ : ∃ a b, ((¬ t < s ∧ s = a ∧ t = b) ∨ (t < s ∧ s = b ∧ t = a)) ∧ a ≤ b ∧ N64 a ∧ N64 b := by
    by_cases h : t < s
    · exact ⟨t, s, Or.inr ⟨h, rfl, rfl⟩, by omega, ht, hs⟩
    · exact ⟨s, t, Or.inl ⟨h, rfl, rfl⟩, by omega, hs, ht⟩
  have a0 := ha.1
  have b1 := hb.2
  have b0 := hb.1
  refine gasBounds_core w s t a b r v u _ _ _ _ _ _ _ _ (b - psn b) (b / 64) (b - a) ((b - a) / 5) (u - v) (3 * (u - v)) (3 * cnt u + cnt u * cnt u / 512 - (3 * cnt v + cnt v * cnt v / 512)) _ _ hst ab ha.1 hb.2 hr.1 hr.2 (ps_mono ha.1 ab).1 (ps_mono ha.1 ab).2 (fun h => ?_) rfl (by omega) (by omega) (ps_more hb.1).2 ?_ rfl (by omega) (by omega) rfl (by omega) (by omega) (bck_facts b a r ab).1 (bck_facts b a r ab).2 (fun h1 h2 h3 => ?_) (fun W => pass_is W a ha) (fun W => pass_is W b hb) (fun W => make_is W a ha) (fun W => make_is W b hb) (fun W => back_is W b a r hb ha hr) (fun W => back_is W a b r ha hb hr) (fun W => memory_is W v hv) (fun W => memory_is W u hu)
  · have h9 := (ps_more hb.1).1 h
    have h8 : 0 ≤ psn b := by omega
    exact ⟨h9.1, h9.2.1, rfl, h9.2.2.1, h9.2.2.2.1, h9.2.2.2.2, by omega⟩
  · omega
  · have h9 := mem_facts v u h1 h2 h3
    exact ⟨h9.2.1, rfl, by omega, by omega, rfl, by omega, by omega, rfl, by omega⟩
end Go.Proofs.Ytpgjchkfglkgcaa
