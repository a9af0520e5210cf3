/- The comparisons of package word, for every two words. -/
import Derived.Test.YtpadpmkfhljiiaaWa
import Derived.Deep.RegionWith
import Derived.Deep.RegionHeld3
namespace Go.Proofs.Ytpadpmkfhljiiaa
open Go.RowKit

set_option maxHeartbeats 400000 in
set_option maxRecDepth 100000 in
theorem lt_any (x y : Int) (a0 a1 a2 a3 b0 b1 b2 b3 : Int) (w : World) (ha : IsW x a0 a1 a2 a3) (hb : IsW y b0 b1 b2 b3) :
    Calls Try.prog 20 #[.agg #[.int .u64 a0, .int .u64 a1, .int .u64 a2, .int .u64 a3], .agg #[.int .u64 b0, .int .u64 b1, .int .u64 b2, .int .u64 b3]] w fun e w' => e = .returned (.bool (decide (x % MM < y % MM))) ∧ Below w.heap.size w w' := by
  go_enter Try.func20, Try.ntmps20
  go_wp2_with fail
  refine (cmp_any x y _ _ _ _ _ _ _ _ _ ha hb).mono ?_
  rintro e w1 ⟨rfl, hB⟩
  have B1 : Below w.heap.size w w1 := Below.trans (by repeat' (first | with_reducible exact Below.refl _ _ | with_reducible exact Below.refl _ _ | with_reducible refine Below.drew ?_ | with_reducible refine bdrewN ?_ _ | with_reducible refine Below.alloc ?_ ?_ _ | with_reducible refine Below.setCell ?_ ?_ _ | omega | (simp; done) | (simp; omega))) (hB.mono (by first | omega | (simp; done) | (simp; omega)))
  clear hB
  generalize hr : cmpv (x % MM) (y % MM) = r
  have HR : Hid (cmpv (x % MM) (y % MM) = r) := hr
  clear hr
  go_wp2
  go_ret
  exact ⟨ret_bool (by rw [← HR.out]; exact cmpv_lt _ _), by repeat' (first | with_reducible exact B1 | with_reducible exact Below.refl _ _ | with_reducible refine Below.drew ?_ | with_reducible refine bdrewN ?_ _ | with_reducible refine Below.alloc ?_ ?_ _ | with_reducible refine Below.setCell ?_ ?_ _ | omega | (simp; done) | (simp; omega))⟩

set_option maxHeartbeats 400000 in
set_option maxRecDepth 100000 in
theorem gt_any (x y : Int) (a0 a1 a2 a3 b0 b1 b2 b3 : Int) (w : World) (ha : IsW x a0 a1 a2 a3) (hb : IsW y b0 b1 b2 b3) :
    Calls Try.prog 22 #[.agg #[.int .u64 a0, .int .u64 a1, .int .u64 a2, .int .u64 a3], .agg #[.int .u64 b0, .int .u64 b1, .int .u64 b2, .int .u64 b3]] w fun e w' => e = .returned (.bool (decide (y % MM < x % MM))) ∧ Below w.heap.size w w' := by
  go_enter Try.func22, Try.ntmps22
  go_wp2_with fail
  refine (cmp_any x y _ _ _ _ _ _ _ _ _ ha hb).mono ?_
  rintro e w1 ⟨rfl, hB⟩
  have B1 : Below w.heap.size w w1 := Below.trans (by repeat' (first | with_reducible exact Below.refl _ _ | with_reducible exact Below.refl _ _ | with_reducible refine Below.drew ?_ | with_reducible refine bdrewN ?_ _ | with_reducible refine Below.alloc ?_ ?_ _ | with_reducible refine Below.setCell ?_ ?_ _ | omega | (simp; done) | (simp; omega))) (hB.mono (by first | omega | (simp; done) | (simp; omega)))
  clear hB
  generalize hr : cmpv (x % MM) (y % MM) = r
  have HR : Hid (cmpv (x % MM) (y % MM) = r) := hr
  clear hr
  go_wp2
  go_ret
  exact ⟨ret_bool (by rw [← HR.out]; exact cmpv_gt _ _), by repeat' (first | with_reducible exact B1 | with_reducible exact Below.refl _ _ | with_reducible refine Below.drew ?_ | with_reducible refine bdrewN ?_ _ | with_reducible refine Below.alloc ?_ ?_ _ | with_reducible refine Below.setCell ?_ ?_ _ | omega | (simp; done) | (simp; omega))⟩

set_option maxHeartbeats 400000 in
set_option maxRecDepth 100000 in
theorem eq_any (x y : Int) (a0 a1 a2 a3 b0 b1 b2 b3 : Int) (w : World) (ha : IsW x a0 a1 a2 a3) (hb : IsW y b0 b1 b2 b3) :
    Calls Try.prog 24 #[.agg #[.int .u64 a0, .int .u64 a1, .int .u64 a2, .int .u64 a3], .agg #[.int .u64 b0, .int .u64 b1, .int .u64 b2, .int .u64 b3]] w fun e w' => e = .returned (.bool (decide (x % MM = y % MM))) ∧ Below w.heap.size w w' := by
  have hq := eqw_run a0 a1 a2 a3 b0 b1 b2 b3
  go_enter Try.func24, Try.ntmps24
  go_wp2
  go_ret
  exact ⟨ret_bool (ha.eqw hb), by repeat' (first | with_reducible exact Below.refl _ _ | with_reducible exact Below.refl _ _ | with_reducible refine Below.drew ?_ | with_reducible refine bdrewN ?_ _ | with_reducible refine Below.alloc ?_ ?_ _ | with_reducible refine Below.setCell ?_ ?_ _ | omega | (simp; done) | (simp; omega))⟩

set_option maxHeartbeats 400000 in
set_option maxRecDepth 100000 in
theorem isZero_any (x : Int) (a0 a1 a2 a3 : Int) (w : World) (ha : IsW x a0 a1 a2 a3) :
    Calls Try.prog 26 #[.agg #[.int .u64 a0, .int .u64 a1, .int .u64 a2, .int .u64 a3]] w fun e w' => e = .returned (.bool (decide (x % MM = 0))) ∧ Below w.heap.size w w' := by
  have hq := eqw_run a0 a1 a2 a3 0 0 0 0
  go_enter Try.func26, Try.ntmps26
  go_wp2
  go_ret
  exact ⟨ret_bool (ha.eqw isW_0), by repeat' (first | with_reducible exact Below.refl _ _ | with_reducible exact Below.refl _ _ | with_reducible refine Below.drew ?_ | with_reducible refine bdrewN ?_ _ | with_reducible refine Below.alloc ?_ ?_ _ | with_reducible refine Below.setCell ?_ ?_ _ | omega | (simp; done) | (simp; omega))⟩

set_option maxHeartbeats 400000 in
set_option maxRecDepth 100000 in
theorem negative_any (x : Int) (a0 a1 a2 a3 : Int) (w : World) (ha : IsW x a0 a1 a2 a3) :
    Calls Try.prog 83 #[.agg #[.int .u64 a0, .int .u64 a1, .int .u64 a2, .int .u64 a3]] w fun e w' => e = .returned (.bool (decide (MM / 2 ≤ x % MM))) ∧ Below w.heap.size w w' := by
  go_enter Try.func83, Try.ntmps83
  go_wp2
  go_ret
  exact ⟨ret_bool ha.neg, by repeat' (first | with_reducible exact Below.refl _ _ | with_reducible exact Below.refl _ _ | with_reducible refine Below.drew ?_ | with_reducible refine bdrewN ?_ _ | with_reducible refine Below.alloc ?_ ?_ _ | with_reducible refine Below.setCell ?_ ?_ _ | omega | (simp; done) | (simp; omega))⟩

set_option maxHeartbeats 400000 in
set_option maxRecDepth 100000 in
theorem flipSign_any (x : Int) (a0 a1 a2 a3 : Int) (w : World) (ha : IsW x a0 a1 a2 a3) :
    Calls Try.prog 90 #[.agg #[.int .u64 a0, .int .u64 a1, .int .u64 a2, .int .u64 a3]] w fun e w' => ∃ s0 s1 s2 s3 : Int, e = .returned (.agg #[.int .u64 s0, .int .u64 s1, .int .u64 s2, .int .u64 s3]) ∧ IsW (x + MM / 2) s0 s1 s2 s3 ∧ Below w.heap.size w w' := by
  go_enter Try.func90, Try.ntmps90
  go_wp2
  exact bodyPost_ret (v := .agg #[.int .u64 a0, .int .u64 a1, .int .u64 a2, .int .u64 (bits BinOp.xor IntKind.u64 a3 9223372036854775808)]) (by simp [results, Try.results90, go_sem]) rfl
    ⟨_, _, _, _, rfl, ha.flip, by repeat' (first | with_reducible exact Below.refl _ _ | with_reducible exact Below.refl _ _ | with_reducible refine Below.drew ?_ | with_reducible refine bdrewN ?_ _ | with_reducible refine Below.alloc ?_ ?_ _ | with_reducible refine Below.setCell ?_ ?_ _ | omega | (simp; done) | (simp; omega))⟩

set_option maxHeartbeats 400000 in
set_option maxRecDepth 100000 in
theorem slt_any (x y : Int) (a0 a1 a2 a3 b0 b1 b2 b3 : Int) (w : World) (ha : IsW x a0 a1 a2 a3) (hb : IsW y b0 b1 b2 b3) :
    Calls Try.prog 59 #[.agg #[.int .u64 a0, .int .u64 a1, .int .u64 a2, .int .u64 a3], .agg #[.int .u64 b0, .int .u64 b1, .int .u64 b2, .int .u64 b3]] w fun e w' => e = .returned (.bool (decide ((x + MM / 2) % MM < (y + MM / 2) % MM))) ∧ Below w.heap.size w w' := by
  go_enter Try.func59, Try.ntmps59
  go_wp2
  go_region_held3 (fun w' => Below w.heap.size w w' ∧ w.heap.size + 1 < w'.heap.size ∧ w'.cell? ⟨w.heap.size, 0, none⟩ = some (.int .u64 a0) ∧ w'.cell? ⟨w.heap.size, 1, none⟩ = some (.int .u64 a1) ∧ w'.cell? ⟨w.heap.size, 2, none⟩ = some (.int .u64 a2) ∧ w'.cell? ⟨w.heap.size, 3, none⟩ = some (.int .u64 a3) ∧ w'.cell? ⟨w.heap.size + 1, 0, none⟩ = some (.int .u64 b0) ∧ w'.cell? ⟨w.heap.size + 1, 1, none⟩ = some (.int .u64 b1) ∧ w'.cell? ⟨w.heap.size + 1, 2, none⟩ = some (.int .u64 b2) ∧ w'.cell? ⟨w.heap.size + 1, 3, none⟩ = some (.int .u64 b3)) (first | (have hzz := hB3.size; go_split_ands; (try dsimp only); refine ⟨?_, ?_, ?_, ?_, ?_, ?_, ?_, ?_, ?_, ?_⟩ <;> first | (with_reducible refine Below.trans ?_ (hB3.mono ?_) <;> first | with_reducible assumption | omega | ((try simp at hzz); omega) | (simp; omega) | ((repeat' (first | with_reducible exact Below.refl _ _ | with_reducible exact Below.refl _ _ | with_reducible refine Below.drew ?_ | with_reducible refine bdrewN ?_ _ | with_reducible refine Below.alloc ?_ ?_ _ | with_reducible refine Below.setCell ?_ ?_ _ | omega | (simp; done) | (simp; omega))); done)) | ((try simp at hzz); omega) | (with_reducible refine (hB3.cell ?_).trans ?_ <;> first | with_reducible assumption | omega | (simp; done) | (simp; omega) | (go_simp; done)) | (with_reducible refine (hB3.frozen ?_).trans ?_ <;> first | with_reducible assumption | omega | (simp; done) | (simp; omega) | (go_simp; done))) | (have hzz := hB2.size; go_split_ands; (try dsimp only); refine ⟨?_, ?_, ?_, ?_, ?_, ?_, ?_, ?_, ?_, ?_⟩ <;> first | (with_reducible refine Below.trans ?_ (hB2.mono ?_) <;> first | with_reducible assumption | omega | ((try simp at hzz); omega) | (simp; omega) | ((repeat' (first | with_reducible exact Below.refl _ _ | with_reducible exact Below.refl _ _ | with_reducible refine Below.drew ?_ | with_reducible refine bdrewN ?_ _ | with_reducible refine Below.alloc ?_ ?_ _ | with_reducible refine Below.setCell ?_ ?_ _ | omega | (simp; done) | (simp; omega))); done)) | ((try simp at hzz); omega) | (with_reducible refine (hB2.cell ?_).trans ?_ <;> first | with_reducible assumption | omega | (simp; done) | (simp; omega) | (go_simp; done)) | (with_reducible refine (hB2.frozen ?_).trans ?_ <;> first | with_reducible assumption | omega | (simp; done) | (simp; omega) | (go_simp; done))) | (have hzz := hB1.size; go_split_ands; (try dsimp only); refine ⟨?_, ?_, ?_, ?_, ?_, ?_, ?_, ?_, ?_, ?_⟩ <;> first | (with_reducible refine Below.trans ?_ (hB1.mono ?_) <;> first | with_reducible assumption | omega | ((try simp at hzz); omega) | (simp; omega) | ((repeat' (first | with_reducible exact Below.refl _ _ | with_reducible exact Below.refl _ _ | with_reducible refine Below.drew ?_ | with_reducible refine bdrewN ?_ _ | with_reducible refine Below.alloc ?_ ?_ _ | with_reducible refine Below.setCell ?_ ?_ _ | omega | (simp; done) | (simp; omega))); done)) | ((try simp at hzz); omega) | (with_reducible refine (hB1.cell ?_).trans ?_ <;> first | with_reducible assumption | omega | (simp; done) | (simp; omega) | (go_simp; done)) | (with_reducible refine (hB1.frozen ?_).trans ?_ <;> first | with_reducible assumption | omega | (simp; done) | (simp; omega) | (go_simp; done))) | ((try dsimp only); refine ⟨?_, ?_, ?_, ?_, ?_, ?_, ?_, ?_, ?_, ?_⟩ <;> first | with_reducible assumption | (simp; done) | (go_simp; done) | ((repeat' (first | with_reducible exact Below.refl _ _ | with_reducible exact Below.refl _ _ | with_reducible refine Below.drew ?_ | with_reducible refine bdrewN ?_ _ | with_reducible refine Below.alloc ?_ ?_ _ | with_reducible refine Below.setCell ?_ ?_ _ | omega | (simp; done) | (simp; omega))); done))) (first
    | (go_at_call_of 90 (a0); refine (flipSign_any x _ _ _ _ _ ha).mono ?_; rintro e w1 ⟨s0, s1, s2, s3, rfl, hs, hB1⟩)
    | (go_at_call_of 90 (b0); refine (flipSign_any y _ _ _ _ _ hb).mono ?_; rintro e w2 ⟨t0, t1, t2, t3, rfl, ht, hB2⟩)
    | (go_at_call 20; refine (lt_any _ _ _ _ _ _ _ _ _ _ _ hs ht).mono ?_; rintro e w3 ⟨rfl, hB3⟩))
  go_split_ands
  go_wp2
  go_ret
  exact ⟨rfl, by assumption⟩

set_option maxHeartbeats 400000 in
set_option maxRecDepth 100000 in
theorem sgt_any (x y : Int) (a0 a1 a2 a3 b0 b1 b2 b3 : Int) (w : World) (ha : IsW x a0 a1 a2 a3) (hb : IsW y b0 b1 b2 b3) :
    Calls Try.prog 60 #[.agg #[.int .u64 a0, .int .u64 a1, .int .u64 a2, .int .u64 a3], .agg #[.int .u64 b0, .int .u64 b1, .int .u64 b2, .int .u64 b3]] w fun e w' => e = .returned (.bool (decide ((y + MM / 2) % MM < (x + MM / 2) % MM))) ∧ Below w.heap.size w w' := by
  go_enter Try.func60, Try.ntmps60
  go_wp2
  go_region_held3 (fun w' => Below w.heap.size w w' ∧ w.heap.size + 1 < w'.heap.size ∧ w'.cell? ⟨w.heap.size, 0, none⟩ = some (.int .u64 a0) ∧ w'.cell? ⟨w.heap.size, 1, none⟩ = some (.int .u64 a1) ∧ w'.cell? ⟨w.heap.size, 2, none⟩ = some (.int .u64 a2) ∧ w'.cell? ⟨w.heap.size, 3, none⟩ = some (.int .u64 a3) ∧ w'.cell? ⟨w.heap.size + 1, 0, none⟩ = some (.int .u64 b0) ∧ w'.cell? ⟨w.heap.size + 1, 1, none⟩ = some (.int .u64 b1) ∧ w'.cell? ⟨w.heap.size + 1, 2, none⟩ = some (.int .u64 b2) ∧ w'.cell? ⟨w.heap.size + 1, 3, none⟩ = some (.int .u64 b3)) (first | (have hzz := hB3.size; go_split_ands; (try dsimp only); refine ⟨?_, ?_, ?_, ?_, ?_, ?_, ?_, ?_, ?_, ?_⟩ <;> first | (with_reducible refine Below.trans ?_ (hB3.mono ?_) <;> first | with_reducible assumption | omega | ((try simp at hzz); omega) | (simp; omega) | ((repeat' (first | with_reducible exact Below.refl _ _ | with_reducible exact Below.refl _ _ | with_reducible refine Below.drew ?_ | with_reducible refine bdrewN ?_ _ | with_reducible refine Below.alloc ?_ ?_ _ | with_reducible refine Below.setCell ?_ ?_ _ | omega | (simp; done) | (simp; omega))); done)) | ((try simp at hzz); omega) | (with_reducible refine (hB3.cell ?_).trans ?_ <;> first | with_reducible assumption | omega | (simp; done) | (simp; omega) | (go_simp; done)) | (with_reducible refine (hB3.frozen ?_).trans ?_ <;> first | with_reducible assumption | omega | (simp; done) | (simp; omega) | (go_simp; done))) | (have hzz := hB2.size; go_split_ands; (try dsimp only); refine ⟨?_, ?_, ?_, ?_, ?_, ?_, ?_, ?_, ?_, ?_⟩ <;> first | (with_reducible refine Below.trans ?_ (hB2.mono ?_) <;> first | with_reducible assumption | omega | ((try simp at hzz); omega) | (simp; omega) | ((repeat' (first | with_reducible exact Below.refl _ _ | with_reducible exact Below.refl _ _ | with_reducible refine Below.drew ?_ | with_reducible refine bdrewN ?_ _ | with_reducible refine Below.alloc ?_ ?_ _ | with_reducible refine Below.setCell ?_ ?_ _ | omega | (simp; done) | (simp; omega))); done)) | ((try simp at hzz); omega) | (with_reducible refine (hB2.cell ?_).trans ?_ <;> first | with_reducible assumption | omega | (simp; done) | (simp; omega) | (go_simp; done)) | (with_reducible refine (hB2.frozen ?_).trans ?_ <;> first | with_reducible assumption | omega | (simp; done) | (simp; omega) | (go_simp; done))) | (have hzz := hB1.size; go_split_ands; (try dsimp only); refine ⟨?_, ?_, ?_, ?_, ?_, ?_, ?_, ?_, ?_, ?_⟩ <;> first | (with_reducible refine Below.trans ?_ (hB1.mono ?_) <;> first | with_reducible assumption | omega | ((try simp at hzz); omega) | (simp; omega) | ((repeat' (first | with_reducible exact Below.refl _ _ | with_reducible exact Below.refl _ _ | with_reducible refine Below.drew ?_ | with_reducible refine bdrewN ?_ _ | with_reducible refine Below.alloc ?_ ?_ _ | with_reducible refine Below.setCell ?_ ?_ _ | omega | (simp; done) | (simp; omega))); done)) | ((try simp at hzz); omega) | (with_reducible refine (hB1.cell ?_).trans ?_ <;> first | with_reducible assumption | omega | (simp; done) | (simp; omega) | (go_simp; done)) | (with_reducible refine (hB1.frozen ?_).trans ?_ <;> first | with_reducible assumption | omega | (simp; done) | (simp; omega) | (go_simp; done))) | ((try dsimp only); refine ⟨?_, ?_, ?_, ?_, ?_, ?_, ?_, ?_, ?_, ?_⟩ <;> first | with_reducible assumption | (simp; done) | (go_simp; done) | ((repeat' (first | with_reducible exact Below.refl _ _ | with_reducible exact Below.refl _ _ | with_reducible refine Below.drew ?_ | with_reducible refine bdrewN ?_ _ | with_reducible refine Below.alloc ?_ ?_ _ | with_reducible refine Below.setCell ?_ ?_ _ | omega | (simp; done) | (simp; omega))); done))) (first
    | (go_at_call_of 90 (a0); refine (flipSign_any x _ _ _ _ _ ha).mono ?_; rintro e w1 ⟨s0, s1, s2, s3, rfl, hs, hB1⟩)
    | (go_at_call_of 90 (b0); refine (flipSign_any y _ _ _ _ _ hb).mono ?_; rintro e w2 ⟨t0, t1, t2, t3, rfl, ht, hB2⟩)
    | (go_at_call 22; refine (gt_any _ _ _ _ _ _ _ _ _ _ _ hs ht).mono ?_; rintro e w3 ⟨rfl, hB3⟩))
  go_split_ands
  go_wp2
  go_ret
  exact ⟨rfl, by assumption⟩
end Go.Proofs.Ytpadpmkfhljiiaa
