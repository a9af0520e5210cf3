/- The text of 2, run; and awake: in whatever world it returns true. -/
import Derived.Test.YtpadpmkfhljiiaaWc
namespace Go.Proofs.Ytpadpmkfhljiiaa
open Go.RowKit
set_option maxHeartbeats 1000000 in
set_option maxRecDepth 100000 in
theorem div64_small (lo y : Int) (w : World) (hy : 0 < y) (hl : U64 lo) :
    Calls Try.prog 141 #[.int .u64 0, .int .u64 lo, .int .u64 y] w fun e w' => e = .returned (.tuple #[.int .u64 (lo / y), .int .u64 (lo % y)]) ∧ Below w.heap.size w w' ∧ ∃ n, w' = w.drewN n := by
  have h1 : (y == 0) = false := beq_eq_false_iff_ne.2 (by omega)
  have h2 : decide (y ≤ 0) = false := by simp; omega
  go_enter Try.func141, Try.ntmps141
  go_wp2
  go_quiet (fail)
  go_wp2
  go_ret2
  refine ⟨?_, by repeat' (first | with_reducible exact Below.refl _ _ | with_reducible exact Below.refl _ _ | with_reducible refine Below.drew ?_ | with_reducible refine bdrewN ?_ _ | with_reducible refine Below.alloc ?_ ?_ _ | with_reducible refine Below.setCell ?_ ?_ _ | omega | (simp; done) | (simp; omega)), _, rfl⟩
  have e1 : lo.tdiv y = lo / y := Int.tdiv_eq_ediv_of_nonneg hl.1
  have e3 : 0 ≤ lo / y := Int.ediv_nonneg hl.1 (by omega)
  have e4 : lo / y ≤ lo := Int.ediv_le_self _ hl.1
  have e5 := hl.2
  unfold Bd at e5
  have e6 : lo / y < 18446744073709551616 := by omega
  have e7 : IntKind.u64.wrap (lo / y) = lo / y := by rw [IntKind.wrap_u64]; exact Int.emod_eq_of_lt e3 e6
  have e2 : lo.tmod y = lo % y := Int.tmod_eq_emod_of_nonneg hl.1
  simp [e1, e2, e7]
set_option maxHeartbeats 1000000 in
set_option maxRecDepth 100000 in
theorem shorten2_any (w : World) :
    Calls Try.prog 108 #[.agg #[.int .u64 2, .int .u64 0, .int .u64 0, .int .u64 0], .int .u64 10] w fun e w' => e = .returned (.tuple #[.agg #[.int .u64 0, .int .u64 0, .int .u64 0, .int .u64 0], .int .u64 2]) ∧ Below w.heap.size w w' := by
  go_enter Try.func108, Try.ntmps108
  go_wp2
  refine wp_loop_rounds 5 ?_
  rw [rounds_succ]
  go_wp2_with (go_at_call 141; refine (div64_small _ _ _ (by omega) (u64_lit _ (by omega) (by omega))).mono ?_; rintro e w' ⟨rfl, hB, n, rfl⟩; clear hB; simp only [Int.zero_ediv, Int.zero_emod])
  rw [rounds_succ]
  go_wp2_with (go_at_call 141; refine (div64_small _ _ _ (by omega) (u64_lit _ (by omega) (by omega))).mono ?_; rintro e w' ⟨rfl, hB, n, rfl⟩; clear hB; simp only [Int.zero_ediv, Int.zero_emod])
  rw [rounds_succ]
  go_wp2_with (go_at_call 141; refine (div64_small _ _ _ (by omega) (u64_lit _ (by omega) (by omega))).mono ?_; rintro e w' ⟨rfl, hB, n, rfl⟩; clear hB; simp only [Int.zero_ediv, Int.zero_emod])
  rw [rounds_succ]
  go_wp2_with (go_at_call 141; refine (div64_small _ _ _ (by omega) (u64_lit _ (by omega) (by omega))).mono ?_; rintro e w' ⟨rfl, hB, n, rfl⟩; clear hB; simp only [show (2 : Int) / 10 = 0 from by decide, show (2 : Int) % 10 = 2 from by decide])
  rw [rounds_succ]
  go_wp2
  exact bodyPost_ret (v := .tuple #[.agg #[.int .u64 0, .int .u64 0, .int .u64 0, .int .u64 0], .int .u64 2]) (by simp [results, Try.results108, go_sem]) rfl
    ⟨rfl, by repeat' (first | with_reducible exact Below.refl _ _ | with_reducible exact Below.refl _ _ | with_reducible refine Below.drew ?_ | with_reducible refine bdrewN ?_ _ | with_reducible refine Below.alloc ?_ ?_ _ | with_reducible refine Below.setCell ?_ ?_ _ | omega | (simp; done) | (simp; omega))⟩
set_option maxHeartbeats 1000000 in
set_option maxRecDepth 100000 in
theorem write2_any (w : World) :
    Calls Try.prog 93 #[.agg #[.int .u64 2, .int .u64 0, .int .u64 0, .int .u64 0], .int .u64 10] w fun e w' => e = .returned (.string ⟨#[50]⟩) ∧ Below w.heap.size w w' := by
  go_enter Try.func93, Try.ntmps93
  go_wp2
  refine wp_loop_rounds 1 ?_
  rw [rounds_succ]
  go_wp2_with fail
  refine (shorten2_any _).mono ?_
  rintro e w1 ⟨rfl, hB⟩
  have z1 : w.heap.size + 1 < w1.heap.size := by have := hB.size; (try simp at this); omega
  have z0 : w.heap.size < w1.heap.size := by omega
  have ka0 : w1.cell? ⟨w.heap.size, 0, none⟩ = some (.int .u64 2) := (hB.cell (p := ⟨w.heap.size, 0, none⟩) (by first | omega | (simp; done) | (simp; omega))).trans (by go_simp)
  have ka1 : w1.cell? ⟨w.heap.size, 1, none⟩ = some (.int .u64 0) := (hB.cell (p := ⟨w.heap.size, 1, none⟩) (by first | omega | (simp; done) | (simp; omega))).trans (by go_simp)
  have ka2 : w1.cell? ⟨w.heap.size, 2, none⟩ = some (.int .u64 0) := (hB.cell (p := ⟨w.heap.size, 2, none⟩) (by first | omega | (simp; done) | (simp; omega))).trans (by go_simp)
  have ka3 : w1.cell? ⟨w.heap.size, 3, none⟩ = some (.int .u64 0) := (hB.cell (p := ⟨w.heap.size, 3, none⟩) (by first | omega | (simp; done) | (simp; omega))).trans (by go_simp)
  have fa0 : w1.frozen? ⟨w.heap.size, 0, none⟩ = false := (hB.frozen (p := ⟨w.heap.size, 0, none⟩) (by first | omega | (simp; done) | (simp; omega))).trans (by go_simp)
  have fa1 : w1.frozen? ⟨w.heap.size, 1, none⟩ = false := (hB.frozen (p := ⟨w.heap.size, 1, none⟩) (by first | omega | (simp; done) | (simp; omega))).trans (by go_simp)
  have fa2 : w1.frozen? ⟨w.heap.size, 2, none⟩ = false := (hB.frozen (p := ⟨w.heap.size, 2, none⟩) (by first | omega | (simp; done) | (simp; omega))).trans (by go_simp)
  have fa3 : w1.frozen? ⟨w.heap.size, 3, none⟩ = false := (hB.frozen (p := ⟨w.heap.size, 3, none⟩) (by first | omega | (simp; done) | (simp; omega))).trans (by go_simp)
  have kt : w1.cell? ⟨w.heap.size + 1, 77, none⟩ = some (.int .u8 0) := (hB.cell (p := ⟨w.heap.size + 1, 77, none⟩) (by simp)).trans (by go_simp; rfl)
  have ft : w1.frozen? ⟨w.heap.size + 1, 77, none⟩ = false := (hB.frozen (p := ⟨w.heap.size + 1, 77, none⟩) (by simp)).trans (by go_simp)
  have B1 : Below w.heap.size w w1 := Below.trans (by repeat' (first | with_reducible exact Below.refl _ _ | with_reducible exact Below.refl _ _ | with_reducible refine Below.drew ?_ | with_reducible refine bdrewN ?_ _ | with_reducible refine Below.alloc ?_ ?_ _ | with_reducible refine Below.setCell ?_ ?_ _ | omega | (simp; done) | (simp; omega))) (hB.mono (by first | omega | (simp; done) | (simp; omega)))
  clear hB
  go_wp2_with fail
  refine (isZero_any 0 _ _ _ _ _ isW_0).mono ?_
  rintro e w2 ⟨rfl, hB⟩
  have kt2 : w2.cell? ⟨w.heap.size + 1, 77, none⟩ = some (.int .u8 50) := (hB.cell (p := ⟨w.heap.size + 1, 77, none⟩) (by simp; omega)).trans (by go_simp; rfl)
  have hz2 : decide ((0 : Int) % MM = 0) = true := by simp
  rw [hz2]
  have y1 : w.heap.size + 1 < w2.heap.size := by have := hB.size; (try simp at this); omega
  have y0 : w.heap.size < w2.heap.size := by omega
  have B2 : Below w.heap.size w w2 := Below.trans (by repeat' (first | with_reducible exact B1 | with_reducible exact Below.refl _ _ | with_reducible refine Below.drew ?_ | with_reducible refine bdrewN ?_ _ | with_reducible refine Below.alloc ?_ ?_ _ | with_reducible refine Below.setCell ?_ ?_ _ | omega | (simp; done) | (simp; omega))) (hB.mono (by first | omega | (simp; done) | (simp; omega)))
  clear hB kt ft ka0 ka1 ka2 ka3 fa0 fa1 fa2 fa3 hz2
  have hl : (loadCells ⟨w.heap.size + 1, 77, none⟩ 1).run Try.prog w2 = .ok ([(50 : Int)].map (Value.int .u8)).toArray w2 :=
    run_loadCells_list (P := Try.prog) w2 ⟨w.heap.size + 1, 77, none⟩ [.int .u8 50] (fun j v hv => by
      have hj : j < 1 := (List.getElem?_eq_some_iff.1 hv).1
      have hj0 : j = 0 := by omega
      subst hj0
      simp at hv
      subst hv
      rw [Addr.add_mid]
      exact kt2)
  have hcv : (convert 44 9 (.slice (some ⟨w.heap.size + 1, 77, none⟩) 1 1)).run Try.prog w2 = .ok (.string ⟨#[50]⟩) w2 := by
    rw [run_convert_bytes_string w2 _ _ _ _ _ _ Try.underlying44 Try.underlying5 Try.underlying9, run_bytesToString w2 _ _ _ _ hl]
    rfl
  clear hl kt2
  go_wp2
  go_ret
  exact ⟨rfl, by repeat' (first | with_reducible exact B2 | with_reducible exact Below.refl _ _ | with_reducible refine Below.drew ?_ | with_reducible refine bdrewN ?_ _ | with_reducible refine Below.alloc ?_ ?_ _ | with_reducible refine Below.setCell ?_ ?_ _ | omega | (simp; done) | (simp; omega))⟩

set_option maxHeartbeats 1000000 in
set_option maxRecDepth 100000 in
theorem text2_any (w : World) :
    Calls Try.prog 63 #[.agg #[.int .u64 2, .int .u64 0, .int .u64 0, .int .u64 0]] w fun e w' => e = .returned (.string ⟨#[50]⟩) ∧ Below w.heap.size w w' := by
  go_enter Try.func63, Try.ntmps63
  go_wp2_with fail
  refine (write2_any _).mono ?_
  rintro e w1 ⟨rfl, hB⟩
  have B1 : Below w.heap.size w w1 := Below.trans (by repeat' (first | with_reducible exact Below.refl _ _ | with_reducible exact Below.refl _ _ | with_reducible refine Below.drew ?_ | with_reducible refine bdrewN ?_ _ | with_reducible refine Below.alloc ?_ ?_ _ | with_reducible refine Below.setCell ?_ ?_ _ | omega | (simp; done) | (simp; omega))) (hB.mono (by first | omega | (simp; done) | (simp; omega)))
  clear hB
  go_wp2
  go_ret
  exact ⟨rfl, by repeat' (first | with_reducible exact B1 | with_reducible exact Below.refl _ _ | with_reducible refine Below.drew ?_ | with_reducible refine bdrewN ?_ _ | with_reducible refine Below.alloc ?_ ?_ _ | with_reducible refine Below.setCell ?_ ?_ _ | omega | (simp; done) | (simp; omega))⟩

set_option maxHeartbeats 1000000 in
set_option maxRecDepth 100000 in
theorem awake_any (w : World) :
    Calls Try.prog 19 #[] w fun e w' => e = .returned (.bool true) ∧ Below w.heap.size w w' := by
  have hq : ∀ (a0 a1 a2 a3 : Int) , ∀ W : World, _ := fun a0 a1 a2 a3 W => eqw_run a0 a1 a2 a3 4 0 0 0 W
  go_enter Try.func19, Try.ntmps19
  go_wp2_with fail
  refine (do1_any 2 2 _ _ _ _ _ _ _ _ _ _ _ _ _ isW_2 isW_2).mono ?_
  rintro e w1 ⟨s0, s1, s2, s3, rfl, hs, hB⟩
  obtain ⟨rfl, rfl, rfl, rfl⟩ := hs.eq isW_4 rfl
  have z0 : w.heap.size < w1.heap.size := by have := hB.size; (try simp at this); omega
  have ka0 : w1.cell? ⟨w.heap.size, 0, none⟩ = some (.int .u64 2) := (hB.cell (p := ⟨w.heap.size, 0, none⟩) (by first | omega | (simp; done) | (simp; omega))).trans (by go_simp)
  have ka1 : w1.cell? ⟨w.heap.size, 1, none⟩ = some (.int .u64 0) := (hB.cell (p := ⟨w.heap.size, 1, none⟩) (by first | omega | (simp; done) | (simp; omega))).trans (by go_simp)
  have ka2 : w1.cell? ⟨w.heap.size, 2, none⟩ = some (.int .u64 0) := (hB.cell (p := ⟨w.heap.size, 2, none⟩) (by first | omega | (simp; done) | (simp; omega))).trans (by go_simp)
  have ka3 : w1.cell? ⟨w.heap.size, 3, none⟩ = some (.int .u64 0) := (hB.cell (p := ⟨w.heap.size, 3, none⟩) (by first | omega | (simp; done) | (simp; omega))).trans (by go_simp)
  have B1 : Below w.heap.size w w1 := Below.trans (by repeat' (first | with_reducible exact Below.refl _ _ | with_reducible exact Below.refl _ _ | with_reducible refine Below.drew ?_ | with_reducible refine bdrewN ?_ _ | with_reducible refine Below.alloc ?_ ?_ _ | with_reducible refine Below.setCell ?_ ?_ _ | omega | (simp; done) | (simp; omega))) (hB.mono (by first | omega | (simp; done) | (simp; omega)))
  clear hB hs
  go_wp2_with fail
  refine (add_any 2 2 _ _ _ _ _ _ _ _ _ isW_2 isW_2).mono ?_
  rintro e w2 ⟨t0, t1, t2, t3, rfl, ht, hB⟩
  obtain ⟨rfl, rfl, rfl, rfl⟩ := ht.eq isW_4 rfl
  have y0 : w.heap.size < w2.heap.size := by have := hB.size; (try simp at this); omega
  have y1 : w1.heap.size < w2.heap.size := by have := hB.size; simp at this; omega
  have la0 : w2.cell? ⟨w.heap.size, 0, none⟩ = some (.int .u64 2) := (hB.cell (p := ⟨w.heap.size, 0, none⟩) (by first | omega | (simp; done) | (simp; omega))).trans (by go_simp)
  have la1 : w2.cell? ⟨w.heap.size, 1, none⟩ = some (.int .u64 0) := (hB.cell (p := ⟨w.heap.size, 1, none⟩) (by first | omega | (simp; done) | (simp; omega))).trans (by go_simp)
  have la2 : w2.cell? ⟨w.heap.size, 2, none⟩ = some (.int .u64 0) := (hB.cell (p := ⟨w.heap.size, 2, none⟩) (by first | omega | (simp; done) | (simp; omega))).trans (by go_simp)
  have la3 : w2.cell? ⟨w.heap.size, 3, none⟩ = some (.int .u64 0) := (hB.cell (p := ⟨w.heap.size, 3, none⟩) (by first | omega | (simp; done) | (simp; omega))).trans (by go_simp)
  have lb0 : w2.cell? ⟨w1.heap.size, 0, none⟩ = some (.int .u64 4) := (hB.cell (p := ⟨w1.heap.size, 0, none⟩) (by first | omega | (simp; done) | (simp; omega))).trans (by go_simp)
  have lb1 : w2.cell? ⟨w1.heap.size, 1, none⟩ = some (.int .u64 0) := (hB.cell (p := ⟨w1.heap.size, 1, none⟩) (by first | omega | (simp; done) | (simp; omega))).trans (by go_simp)
  have lb2 : w2.cell? ⟨w1.heap.size, 2, none⟩ = some (.int .u64 0) := (hB.cell (p := ⟨w1.heap.size, 2, none⟩) (by first | omega | (simp; done) | (simp; omega))).trans (by go_simp)
  have lb3 : w2.cell? ⟨w1.heap.size, 3, none⟩ = some (.int .u64 0) := (hB.cell (p := ⟨w1.heap.size, 3, none⟩) (by first | omega | (simp; done) | (simp; omega))).trans (by go_simp)
  have B2 : Below w.heap.size w w2 := Below.trans (by repeat' (first | with_reducible exact B1 | with_reducible exact Below.refl _ _ | with_reducible refine Below.drew ?_ | with_reducible refine bdrewN ?_ _ | with_reducible refine Below.alloc ?_ ?_ _ | with_reducible refine Below.setCell ?_ ?_ _ | omega | (simp; done) | (simp; omega))) (hB.mono (by first | omega | (simp; done) | (simp; omega)))
  clear hB ka0 ka1 ka2 ka3 ht
  go_wp2_with fail
  refine (text2_any _).mono ?_
  rintro e w3 ⟨rfl, hB⟩
  have B3 : Below w.heap.size w w3 := Below.trans (by repeat' (first | with_reducible exact B2 | with_reducible exact Below.refl _ _ | with_reducible refine Below.drew ?_ | with_reducible refine bdrewN ?_ _ | with_reducible refine Below.alloc ?_ ?_ _ | with_reducible refine Below.setCell ?_ ?_ _ | omega | (simp; done) | (simp; omega))) (hB.mono (by first | omega | (simp; done) | (simp; omega)))
  clear hB
  go_wp2
  go_ret
  exact ⟨rfl, by repeat' (first | with_reducible exact B3 | with_reducible exact Below.refl _ _ | with_reducible refine Below.drew ?_ | with_reducible refine bdrewN ?_ _ | with_reducible refine Below.alloc ?_ ?_ _ | with_reducible refine Below.setCell ?_ ?_ _ | omega | (simp; done) | (simp; omega))⟩
end Go.Proofs.Ytpadpmkfhljiiaa
