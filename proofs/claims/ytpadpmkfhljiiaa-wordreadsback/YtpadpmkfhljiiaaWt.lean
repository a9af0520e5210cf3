/- Shifts by words: FromUint, below, signBits. -/
import Derived.Test.YtpadpmkfhljiiaaWis
namespace Go.Proofs.Ytpadpmkfhljiiaa
open Go.RowKit
set_option maxHeartbeats 400000 in
theorem fromUint_any (n : Int) (w : World) :
    Calls Try.prog 53 #[.int .u64 n] w fun e w' => e = .returned (.agg #[.int .u64 n, .int .u64 0, .int .u64 0, .int .u64 0]) ∧ Below w.heap.size w w' := by
  go_enter Try.func53, Try.ntmps53
  go_wp2
  exact bodyPost_ret (v := .agg #[.int .u64 n, .int .u64 0, .int .u64 0, .int .u64 0]) (by simp [results, Try.results53, go_sem]) rfl ⟨rfl, by repeat' (first | with_reducible exact Below.refl _ _ | with_reducible exact Below.refl _ _ | with_reducible refine Below.drew ?_ | with_reducible refine bdrewN ?_ _ | with_reducible refine Below.alloc ?_ ?_ _ | with_reducible refine Below.setCell ?_ ?_ _ | omega | (simp; done) | (simp; omega))⟩

set_option maxHeartbeats 400000 in
set_option maxRecDepth 100000 in
theorem signBits_any (x : Int) (a0 a1 a2 a3 : Int) (w : World) (ha : IsW x a0 a1 a2 a3) :
    Calls Try.prog 88 #[.agg #[.int .u64 a0, .int .u64 a1, .int .u64 a2, .int .u64 a3]] w fun e w' => e = .returned (.int .u64 (if MM / 2 ≤ x % MM then 18446744073709551615 else 0)) ∧ Below w.heap.size w w' := by
  have H := negative_any x a0 a1 a2 a3
  by_cases h : MM / 2 ≤ x % MM
  · rw [if_pos h]
    have hd : decide (MM / 2 ≤ x % MM) = true := by simp [h]
    rw [hd] at H
    have HH : Hid _ := H
    clear H hd h
    go_enter Try.func88, Try.ntmps88
    go_wp2_with fail
    refine (HH.out _ ha).mono ?_
    rintro e w1 ⟨rfl, hB⟩
    have B1 : Below w.heap.size w w1 := Below.trans (by repeat' (first | with_reducible exact Below.refl _ _ | with_reducible exact Below.refl _ _ | with_reducible refine Below.drew ?_ | with_reducible refine bdrewN ?_ _ | with_reducible refine Below.alloc ?_ ?_ _ | with_reducible refine Below.setCell ?_ ?_ _ | omega | (simp; done) | (simp; omega))) (hB.mono (by first | omega | (simp; done) | (simp; omega)))
    clear hB HH
    go_wp2
    go_ret
    exact ⟨rfl, by repeat' (first | with_reducible exact B1 | with_reducible exact Below.refl _ _ | with_reducible refine Below.drew ?_ | with_reducible refine bdrewN ?_ _ | with_reducible refine Below.alloc ?_ ?_ _ | with_reducible refine Below.setCell ?_ ?_ _ | omega | (simp; done) | (simp; omega))⟩
  · rw [if_neg h]
    have hd : decide (MM / 2 ≤ x % MM) = false := by simp [h]
    rw [hd] at H
    have HH : Hid _ := H
    clear H hd h
    go_enter Try.func88, Try.ntmps88
    go_wp2_with fail
    refine (HH.out _ ha).mono ?_
    rintro e w1 ⟨rfl, hB⟩
    have B1 : Below w.heap.size w w1 := Below.trans (by repeat' (first | with_reducible exact Below.refl _ _ | with_reducible exact Below.refl _ _ | with_reducible refine Below.drew ?_ | with_reducible refine bdrewN ?_ _ | with_reducible refine Below.alloc ?_ ?_ _ | with_reducible refine Below.setCell ?_ ?_ _ | omega | (simp; done) | (simp; omega))) (hB.mono (by first | omega | (simp; done) | (simp; omega)))
    clear hB HH
    go_wp2
    go_ret
    exact ⟨rfl, by repeat' (first | with_reducible exact B1 | with_reducible exact Below.refl _ _ | with_reducible refine Below.drew ?_ | with_reducible refine bdrewN ?_ _ | with_reducible refine Below.alloc ?_ ?_ _ | with_reducible refine Below.setCell ?_ ?_ _ | omega | (simp; done) | (simp; omega))⟩

set_option maxHeartbeats 1000000 in
set_option maxRecDepth 100000 in
theorem below_lt (x n : Int) (a0 a1 a2 a3 : Int) (w : World) (ha : IsW x a0 a1 a2 a3) (hn : IsW n n 0 0 0) (h : x % MM < n % MM) :
    Calls Try.prog 85 #[.agg #[.int .u64 a0, .int .u64 a1, .int .u64 a2, .int .u64 a3], .int .u64 n] w fun e w' => e = .returned (.tuple #[.int .u64 a0, .bool true]) ∧ Below w.heap.size w w' := by
  have H : Hid (decide (x % MM < n % MM) = true) := by unfold Hid; simp [h]
  clear h
  go_enter Try.func85, Try.ntmps85
  go_wp2
  go_region_held3 (fun w' => Below w.heap.size w w' ∧ w.heap.size < w'.heap.size ∧ w'.cell? ⟨w.heap.size, 0, none⟩ = some (.int .u64 a0) ∧ w'.cell? ⟨w.heap.size, 1, none⟩ = some (.int .u64 a1) ∧ w'.cell? ⟨w.heap.size, 2, none⟩ = some (.int .u64 a2) ∧ w'.cell? ⟨w.heap.size, 3, none⟩ = some (.int .u64 a3)) (first | (have hzz := hB3.size; go_split_ands; (try dsimp only); refine ⟨?_, ?_, ?_, ?_, ?_, ?_⟩ <;> first | (with_reducible refine Below.trans ?_ (hB3.mono ?_) <;> first | with_reducible assumption | omega | ((try simp at hzz); omega) | (simp; omega) | ((repeat' (first | with_reducible exact Below.refl _ _ | with_reducible exact Below.refl _ _ | with_reducible refine Below.drew ?_ | with_reducible refine bdrewN ?_ _ | with_reducible refine Below.alloc ?_ ?_ _ | with_reducible refine Below.setCell ?_ ?_ _ | omega | (simp; done) | (simp; omega))); done)) | ((try simp at hzz); omega) | (with_reducible refine (hB3.cell ?_).trans ?_ <;> first | with_reducible assumption | omega | (simp; done) | (simp; omega) | (go_simp; done)) | (with_reducible refine (hB3.frozen ?_).trans ?_ <;> first | with_reducible assumption | omega | (simp; done) | (simp; omega) | (go_simp; done))) | (have hzz := hB2.size; go_split_ands; (try dsimp only); refine ⟨?_, ?_, ?_, ?_, ?_, ?_⟩ <;> first | (with_reducible refine Below.trans ?_ (hB2.mono ?_) <;> first | with_reducible assumption | omega | ((try simp at hzz); omega) | (simp; omega) | ((repeat' (first | with_reducible exact Below.refl _ _ | with_reducible exact Below.refl _ _ | with_reducible refine Below.drew ?_ | with_reducible refine bdrewN ?_ _ | with_reducible refine Below.alloc ?_ ?_ _ | with_reducible refine Below.setCell ?_ ?_ _ | omega | (simp; done) | (simp; omega))); done)) | ((try simp at hzz); omega) | (with_reducible refine (hB2.cell ?_).trans ?_ <;> first | with_reducible assumption | omega | (simp; done) | (simp; omega) | (go_simp; done)) | (with_reducible refine (hB2.frozen ?_).trans ?_ <;> first | with_reducible assumption | omega | (simp; done) | (simp; omega) | (go_simp; done))) | ((try dsimp only); refine ⟨?_, ?_, ?_, ?_, ?_, ?_⟩ <;> first | with_reducible assumption | (simp; done) | (go_simp; done) | ((repeat' (first | with_reducible exact Below.refl _ _ | with_reducible exact Below.refl _ _ | with_reducible refine Below.drew ?_ | with_reducible refine bdrewN ?_ _ | with_reducible refine Below.alloc ?_ ?_ _ | with_reducible refine Below.setCell ?_ ?_ _ | omega | (simp; done) | (simp; omega))); done))) (first
    | (go_at_call 53; refine (fromUint_any _ _).mono ?_; rintro e w2 ⟨rfl, hB2⟩)
    | (go_at_call 20; refine (lt_is _ _ _ _ _ _ _ _ _ ha hn _ H.out).mono ?_; rintro e w3 ⟨rfl, hB3⟩))
  go_split_ands
  go_wp2
  go_ret2
  exact ⟨rfl, by with_reducible assumption⟩
set_option maxHeartbeats 1000000 in
set_option maxRecDepth 100000 in
theorem below_ge (x n : Int) (a0 a1 a2 a3 : Int) (w : World) (ha : IsW x a0 a1 a2 a3) (hn : IsW n n 0 0 0) (h : ¬ x % MM < n % MM) :
    Calls Try.prog 85 #[.agg #[.int .u64 a0, .int .u64 a1, .int .u64 a2, .int .u64 a3], .int .u64 n] w fun e w' => e = .returned (.tuple #[.int .u64 0, .bool false]) ∧ Below w.heap.size w w' := by
  have H : Hid (decide (x % MM < n % MM) = false) := by unfold Hid; simp [h]
  clear h
  go_enter Try.func85, Try.ntmps85
  go_wp2
  go_region_held3 (fun w' => Below w.heap.size w w' ∧ w.heap.size < w'.heap.size ∧ w'.cell? ⟨w.heap.size, 0, none⟩ = some (.int .u64 a0) ∧ w'.cell? ⟨w.heap.size, 1, none⟩ = some (.int .u64 a1) ∧ w'.cell? ⟨w.heap.size, 2, none⟩ = some (.int .u64 a2) ∧ w'.cell? ⟨w.heap.size, 3, none⟩ = some (.int .u64 a3)) (first | (have hzz := hB3.size; go_split_ands; (try dsimp only); refine ⟨?_, ?_, ?_, ?_, ?_, ?_⟩ <;> first | (with_reducible refine Below.trans ?_ (hB3.mono ?_) <;> first | with_reducible assumption | omega | ((try simp at hzz); omega) | (simp; omega) | ((repeat' (first | with_reducible exact Below.refl _ _ | with_reducible exact Below.refl _ _ | with_reducible refine Below.drew ?_ | with_reducible refine bdrewN ?_ _ | with_reducible refine Below.alloc ?_ ?_ _ | with_reducible refine Below.setCell ?_ ?_ _ | omega | (simp; done) | (simp; omega))); done)) | ((try simp at hzz); omega) | (with_reducible refine (hB3.cell ?_).trans ?_ <;> first | with_reducible assumption | omega | (simp; done) | (simp; omega) | (go_simp; done)) | (with_reducible refine (hB3.frozen ?_).trans ?_ <;> first | with_reducible assumption | omega | (simp; done) | (simp; omega) | (go_simp; done))) | (have hzz := hB2.size; go_split_ands; (try dsimp only); refine ⟨?_, ?_, ?_, ?_, ?_, ?_⟩ <;> first | (with_reducible refine Below.trans ?_ (hB2.mono ?_) <;> first | with_reducible assumption | omega | ((try simp at hzz); omega) | (simp; omega) | ((repeat' (first | with_reducible exact Below.refl _ _ | with_reducible exact Below.refl _ _ | with_reducible refine Below.drew ?_ | with_reducible refine bdrewN ?_ _ | with_reducible refine Below.alloc ?_ ?_ _ | with_reducible refine Below.setCell ?_ ?_ _ | omega | (simp; done) | (simp; omega))); done)) | ((try simp at hzz); omega) | (with_reducible refine (hB2.cell ?_).trans ?_ <;> first | with_reducible assumption | omega | (simp; done) | (simp; omega) | (go_simp; done)) | (with_reducible refine (hB2.frozen ?_).trans ?_ <;> first | with_reducible assumption | omega | (simp; done) | (simp; omega) | (go_simp; done))) | ((try dsimp only); refine ⟨?_, ?_, ?_, ?_, ?_, ?_⟩ <;> first | with_reducible assumption | (simp; done) | (go_simp; done) | ((repeat' (first | with_reducible exact Below.refl _ _ | with_reducible exact Below.refl _ _ | with_reducible refine Below.drew ?_ | with_reducible refine bdrewN ?_ _ | with_reducible refine Below.alloc ?_ ?_ _ | with_reducible refine Below.setCell ?_ ?_ _ | omega | (simp; done) | (simp; omega))); done))) (first
    | (go_at_call 53; refine (fromUint_any _ _).mono ?_; rintro e w2 ⟨rfl, hB2⟩)
    | (go_at_call 20; refine (lt_is _ _ _ _ _ _ _ _ _ ha hn _ H.out).mono ?_; rintro e w3 ⟨rfl, hB3⟩))
  go_split_ands
  go_wp2
  go_ret2
  exact ⟨rfl, by with_reducible assumption⟩
end Go.Proofs.Ytpadpmkfhljiiaa
