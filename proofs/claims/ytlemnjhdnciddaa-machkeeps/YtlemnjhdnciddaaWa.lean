/- What the leaves of package word do to the world, for every word: sums, differences, comparisons, equality. No condition but that limbs are numbers of 64 bits. -/
import Derived.Test.YtlemnjhdnciddaaRows
import Derived.Test.YtlemnjhdnciddaaNum
import Derived.WalkKit
import Derived.WalkSpells
import Derived.WalkLawsBesides
import Derived.Deep.QuietTactic
import Derived.BigQuiet
namespace Go.Proofs.Ytlemnjhdnciddaa
open Go.RowKit

theorem bcell {W w1 : World} (hb : Below W.heap.size W w1) : (∀ b o, b < W.heap.size → w1.cell? ⟨b, o, none⟩ = W.cell? ⟨b, o, none⟩) ∧ (∀ b o, b < W.heap.size → w1.frozen? ⟨b, o, none⟩ = W.frozen? ⟨b, o, none⟩) :=
  ⟨fun b o h => hb.cell (p := ⟨b, o, none⟩) h, fun b o h => hb.frozen (p := ⟨b, o, none⟩) h⟩

theorem bdrewN {B : Nat} {a w : World} (h : Below B a w) (n : Nat) : Below B a (w.drewN n) := h.trans ⟨rfl, rfl, rfl, Nat.le_refl _, fun _ _ => rfl⟩
theorem below_undrew {a b : World} (h : Below a.drew.heap.size a.drew b) : Below a.heap.size a b := ⟨h.os, h.tape, h.output, h.size, h.block⟩
theorem below_undrewN {a b : World} {n : Nat} (h : Below (a.drewN n).heap.size (a.drewN n) b) : Below a.heap.size a b := ⟨h.os, h.tape, h.output, h.size, h.block⟩
theorem ret_int {k : IntKind} {a b : Int} (h : a = b) : Ending.returned (.int k a) = .returned (.int k b) := by rw [h]
theorem ret_bool {a b : Bool} (h : a = b) : Ending.returned (.bool a) = .returned (.bool b) := by rw [h]
-- bits.Add64, bits.Sub64: run by the model
theorem add64_run (x y c : Int) (hx : 0 ≤ x) (hy : 0 ≤ y) (hc0 : 0 ≤ c) (hc : c ≤ 1) (w : World) :
    (callFunc 69 #[.int .u64 x, .int .u64 y, .int .u64 c]).run Try.prog w = .ok (.value (.tuple #[.int .u64 ((x + y + c) % 18446744073709551616), .int .u64 ((x + y + c) / 18446744073709551616)])) w := by
  rw [run_callFunc_extern (e := add64Entry) Try.func69 (by kernel_rfl) (by kernel_rfl) (by kernel_rfl) (by kernel_rfl)]
  rw [run_add64 x y c hx hy hc0 hc w]
  rfl
theorem add64_ex (x y c : Int) (hx : U64 x) (hy : U64 y) (hc0 : 0 ≤ c) (hc : c ≤ 1) : ∃ s d : Int, (∀ W : World, (callFunc 69 #[.int .u64 x, .int .u64 y, .int .u64 c]).run Try.prog W = .ok (.value (.tuple #[.int .u64 s, .int .u64 d])) W) ∧ Hid (x + y + c = s + Bd * d) ∧ U64 s ∧ 0 ≤ d ∧ d ≤ 1 := by
  refine ⟨_, _, fun W => add64_run x y c hx.1 hy.1 hc0 hc W, ?_, ?_, ?_, ?_⟩ <;> simp only [Hid, U64, Bd] at * <;> omega
theorem eq64_run (k : Nat) (x y : Int) (W : World) : Sem.run Try.prog (Op.equalIn (k+1) 28 (.int .u64 x) (.int .u64 y)) W = .ok (x == y) W := by
  simp [Op.equalIn, run_underlying Try.underlying28]
theorem size64 (W : World) : Sem.run Try.prog (sizeOf 28) W = .ok 1 W := by kernel_rfl
theorem part0 (a0 a1 a2 a3 : Int) (W : World) : Sem.run Try.prog (part 28 #[.int .u64 a0, .int .u64 a1, .int .u64 a2, .int .u64 a3] 0) W = .ok (.int .u64 a0) W := by kernel_rfl
theorem part1 (a0 a1 a2 a3 : Int) (W : World) : Sem.run Try.prog (part 28 #[.int .u64 a0, .int .u64 a1, .int .u64 a2, .int .u64 a3] 1) W = .ok (.int .u64 a1) W := by kernel_rfl
theorem part2 (a0 a1 a2 a3 : Int) (W : World) : Sem.run Try.prog (part 28 #[.int .u64 a0, .int .u64 a1, .int .u64 a2, .int .u64 a3] 2) W = .ok (.int .u64 a2) W := by kernel_rfl
theorem part3 (a0 a1 a2 a3 : Int) (W : World) : Sem.run Try.prog (part 28 #[.int .u64 a0, .int .u64 a1, .int .u64 a2, .int .u64 a3] 3) W = .ok (.int .u64 a3) W := by kernel_rfl
set_option maxRecDepth 100000 in
theorem eqw_run (a0 a1 a2 a3 b0 b1 b2 b3 : Int) (W : World) : Sem.run Try.prog (Op.equalIn 10000 30 (.agg #[.int .u64 a0, .int .u64 a1, .int .u64 a2, .int .u64 a3]) (.agg #[.int .u64 b0, .int .u64 b1, .int .u64 b2, .int .u64 b3])) W = .ok (eqw a0 a1 a2 a3 b0 b1 b2 b3) W := by
  rw [show (10000 : Nat) = 9998 + 1 + 1 from rfl, Op.equalIn]
  simp only [Sem.run_bind, run_underlying Try.underlying30, Result.andThen_ok, size64, Std.Legacy.Range.forIn_eq_forIn_range', Std.Legacy.Range.size]
  simp [List.range', part0, part1, part2, part3, eq64_run, eqw]
  by_cases h0 : a0 = b0 <;> by_cases h1 : a1 = b1 <;> by_cases h2 : a2 = b2 <;> by_cases h3 : a3 = b3 <;> simp [h0, h1, h2, h3]

set_option maxHeartbeats 400000 in
set_option maxRecDepth 100000 in
theorem addCarry_any (x y : Int) (a0 a1 a2 a3 b0 b1 b2 b3 : Int) (w : World) (ha : IsW x a0 a1 a2 a3) (hb : IsW y b0 b1 b2 b3) :
    Calls Try.prog 52 #[.agg #[.int .u64 a0, .int .u64 a1, .int .u64 a2, .int .u64 a3], .agg #[.int .u64 b0, .int .u64 b1, .int .u64 b2, .int .u64 b3]] w fun e w' => ∃ s0 s1 s2 s3 c : Int, e = .returned (.tuple #[.agg #[.int .u64 s0, .int .u64 s1, .int .u64 s2, .int .u64 s3], .int .u64 c]) ∧ IsW (x + y) s0 s1 s2 s3 ∧ V a0 a1 a2 a3 + V b0 b1 b2 b3 = V s0 s1 s2 s3 + MM * c ∧ 0 ≤ c ∧ c ≤ 1 ∧ Below w.heap.size w w' := by
  obtain ⟨s0, c1, r0, e0, u0, l0, m0⟩ := add64_ex a0 b0 0 ha.u0 hb.u0 (by omega) (by omega)
  obtain ⟨s1, c2, r1, e1, u1, l1, m1⟩ := add64_ex a1 b1 c1 ha.u1 hb.u1 (by omega) (by omega)
  obtain ⟨s2, c3, r2, e2, u2, l2, m2⟩ := add64_ex a2 b2 c2 ha.u2 hb.u2 (by omega) (by omega)
  obtain ⟨s3, c4, r3, e3, u3, l3, m3⟩ := add64_ex a3 b3 c3 ha.u3 hb.u3 (by omega) (by omega)
  go_enter Try.func52, Try.ntmps52
  go_wp2
  refine wp_loop_rounds 5 ?_
  rw [rounds_succ]
  go_wp2
  go_region
  go_wp2
  rw [rounds_succ]
  go_wp2
  go_region
  go_wp2
  rw [rounds_succ]
  go_wp2
  go_region
  go_wp2
  rw [rounds_succ]
  go_wp2
  go_region
  go_wp2
  rw [rounds_succ]
  go_wp2
  have ce := carry4 e0.out e1.out e2.out e3.out
  exact bodyPost_ret (v := .tuple #[.agg #[.int .u64 s0, .int .u64 s1, .int .u64 s2, .int .u64 s3], .int .u64 c4]) (by simp [results, Try.results52, go_sem]) rfl
    ⟨s0, s1, s2, s3, c4, rfl, isW_add ha hb u0 u1 u2 u3 ce, ce, l3, m3, by repeat' (first | with_reducible exact Below.refl _ _ | with_reducible exact Below.refl _ _ | with_reducible refine Below.drew ?_ | with_reducible refine bdrewN ?_ _ | with_reducible refine Below.alloc ?_ ?_ _ | with_reducible refine Below.setCell ?_ ?_ _ | omega | (simp; done) | (simp; omega))⟩

set_option maxHeartbeats 1000000 in
set_option maxRecDepth 100000 in
theorem cmp_limbs (a0 a1 a2 a3 b0 b1 b2 b3 : Int) (w : World) :
    Calls Try.prog 53 #[.agg #[.int .u64 a0, .int .u64 a1, .int .u64 a2, .int .u64 a3], .agg #[.int .u64 b0, .int .u64 b1, .int .u64 b2, .int .u64 b3]] w fun e w' => e = .returned (.int .i64 (cmpw a0 a1 a2 a3 b0 b1 b2 b3)) ∧ Below w.heap.size w w' := by
  go_enter Try.func53, Try.ntmps53
  go_wp2
  refine wp_loop_rounds 5 ?_
  rw [rounds_succ]
  go_wp2
  go_quiet (fail)
  go_wp2
  · go_ret
    exact ⟨ret_int (by unfold cmpw; repeat' split
                       all_goals omega), by repeat' (first | with_reducible exact Below.refl _ _ | with_reducible exact Below.refl _ _ | with_reducible refine Below.drew ?_ | with_reducible refine bdrewN ?_ _ | with_reducible refine Below.alloc ?_ ?_ _ | with_reducible refine Below.setCell ?_ ?_ _ | omega | (simp; done) | (simp; omega))⟩
  go_quiet (fail)
  go_wp2
  · go_ret
    exact ⟨ret_int (by unfold cmpw; repeat' split
                       all_goals omega), by repeat' (first | with_reducible exact Below.refl _ _ | with_reducible exact Below.refl _ _ | with_reducible refine Below.drew ?_ | with_reducible refine bdrewN ?_ _ | with_reducible refine Below.alloc ?_ ?_ _ | with_reducible refine Below.setCell ?_ ?_ _ | omega | (simp; done) | (simp; omega))⟩
  rw [rounds_succ]
  go_wp2
  go_quiet (fail)
  go_wp2
  · go_ret
    exact ⟨ret_int (by unfold cmpw; repeat' split
                       all_goals omega), by repeat' (first | with_reducible exact Below.refl _ _ | with_reducible exact Below.refl _ _ | with_reducible refine Below.drew ?_ | with_reducible refine bdrewN ?_ _ | with_reducible refine Below.alloc ?_ ?_ _ | with_reducible refine Below.setCell ?_ ?_ _ | omega | (simp; done) | (simp; omega))⟩
  go_quiet (fail)
  go_wp2
  · go_ret
    exact ⟨ret_int (by unfold cmpw; repeat' split
                       all_goals omega), by repeat' (first | with_reducible exact Below.refl _ _ | with_reducible exact Below.refl _ _ | with_reducible refine Below.drew ?_ | with_reducible refine bdrewN ?_ _ | with_reducible refine Below.alloc ?_ ?_ _ | with_reducible refine Below.setCell ?_ ?_ _ | omega | (simp; done) | (simp; omega))⟩
  rw [rounds_succ]
  go_wp2
  go_quiet (fail)
  go_wp2
  · go_ret
    exact ⟨ret_int (by unfold cmpw; repeat' split
                       all_goals omega), by repeat' (first | with_reducible exact Below.refl _ _ | with_reducible exact Below.refl _ _ | with_reducible refine Below.drew ?_ | with_reducible refine bdrewN ?_ _ | with_reducible refine Below.alloc ?_ ?_ _ | with_reducible refine Below.setCell ?_ ?_ _ | omega | (simp; done) | (simp; omega))⟩
  go_quiet (fail)
  go_wp2
  · go_ret
    exact ⟨ret_int (by unfold cmpw; repeat' split
                       all_goals omega), by repeat' (first | with_reducible exact Below.refl _ _ | with_reducible exact Below.refl _ _ | with_reducible refine Below.drew ?_ | with_reducible refine bdrewN ?_ _ | with_reducible refine Below.alloc ?_ ?_ _ | with_reducible refine Below.setCell ?_ ?_ _ | omega | (simp; done) | (simp; omega))⟩
  rw [rounds_succ]
  go_wp2
  go_quiet (fail)
  go_wp2
  · go_ret
    exact ⟨ret_int (by unfold cmpw; repeat' split
                       all_goals omega), by repeat' (first | with_reducible exact Below.refl _ _ | with_reducible exact Below.refl _ _ | with_reducible refine Below.drew ?_ | with_reducible refine bdrewN ?_ _ | with_reducible refine Below.alloc ?_ ?_ _ | with_reducible refine Below.setCell ?_ ?_ _ | omega | (simp; done) | (simp; omega))⟩
  go_quiet (fail)
  go_wp2
  · go_ret
    exact ⟨ret_int (by unfold cmpw; repeat' split
                       all_goals omega), by repeat' (first | with_reducible exact Below.refl _ _ | with_reducible exact Below.refl _ _ | with_reducible refine Below.drew ?_ | with_reducible refine bdrewN ?_ _ | with_reducible refine Below.alloc ?_ ?_ _ | with_reducible refine Below.setCell ?_ ?_ _ | omega | (simp; done) | (simp; omega))⟩
  rw [rounds_succ]
  go_wp2
  go_ret
  exact ⟨ret_int (by unfold cmpw; repeat' split
                     all_goals omega), by repeat' (first | with_reducible exact Below.refl _ _ | with_reducible exact Below.refl _ _ | with_reducible refine Below.drew ?_ | with_reducible refine bdrewN ?_ _ | with_reducible refine Below.alloc ?_ ?_ _ | with_reducible refine Below.setCell ?_ ?_ _ | omega | (simp; done) | (simp; omega))⟩
theorem cmp_any (x y : Int) (a0 a1 a2 a3 b0 b1 b2 b3 : Int) (w : World) (ha : IsW x a0 a1 a2 a3) (hb : IsW y b0 b1 b2 b3) :
    Calls Try.prog 53 #[.agg #[.int .u64 a0, .int .u64 a1, .int .u64 a2, .int .u64 a3], .agg #[.int .u64 b0, .int .u64 b1, .int .u64 b2, .int .u64 b3]] w fun e w' => e = .returned (.int .i64 (cmpv (x % MM) (y % MM))) ∧ Below w.heap.size w w' := by
  refine (cmp_limbs a0 a1 a2 a3 b0 b1 b2 b3 w).mono fun e w' ⟨he, hB⟩ => ⟨?_, hB⟩
  rw [he, cmpw_eq ha.u0 ha.u1 ha.u2 ha.u3 hb.u0 hb.u1 hb.u2 hb.u3, ha.2, hb.2]
end Go.Proofs.Ytlemnjhdnciddaa
